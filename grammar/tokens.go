// Package grammar has the readers that ptype, pexpr and pfile are faces of: of tokens, types, expressions, files.
// Each reader embeds the one ahead of it.
package grammar

import (
	"plinth/api"
	"plinth/scan"
)

// fault is what a reader gives up with: a place and what is wrong there. At is the number of a token.
type fault struct {
	at int
	e  api.Errno
}

// Tokens reads tokens, and counts the brackets that are open.
type Tokens struct {
	list []api.Token
	at   int
	open int
}

// Load takes the tokens of a text. What scan refuses a text with is handed on, so that no face names an error of its own.
func (r *Tokens) Load(s string) api.Errno {
	list, e := scan.Cut(s)
	*r = Tokens{list: list}
	return e
}

// Whole reads a text with the part that is handed to it, which must be all of the text.
func (r *Tokens) Whole(s string, part func() api.Node) (api.Node, int, api.Errno) {
	if e := r.Load(s); e != api.OK {
		return api.Node{}, 0, e
	}
	n, wrong := r.try(func() api.Node {
		n := part()
		if r.now().Kind != api.TEnd {
			r.fail()
		}
		return n
	})
	if wrong.e != api.OK {
		return api.Node{}, r.list[wrong.at].At, wrong.e
	}
	return n, 0, api.OK
}

// try reads a part, and catches the fault with which its reading is given up.
func (r *Tokens) try(part func() api.Node) (n api.Node, wrong fault) {
	defer func() {
		if told, gaveUp := recover().(fault); gaveUp {
			n, wrong = api.Node{}, told
		}
	}()
	return part(), fault{}
}

func (r *Tokens) fail() {
	panic(fault{r.at, api.ErrSyntax})
}

func (r *Tokens) now() api.Token {
	return r.list[r.at]
}

// behind tells the token so many behind the present one; the end stands behind all others for ever.
func (r *Tokens) behind(count int) api.Token {
	return r.list[min(r.at+count, len(r.list)-1)]
}

func isSign(t api.Token, sign string) bool {
	return t.Kind == api.TSign && t.Text == sign
}

// sees tells which of the signs and reserved words comes now; "" if none does.
func (r *Tokens) sees(signs ...string) string {
	t := r.now()
	if t.Kind != api.TSign && t.Kind != api.TWord {
		return ""
	}
	for _, s := range signs {
		if t.Text == s {
			return s
		}
	}
	return ""
}

// take steps over one of the signs and reserved words, if one comes now, and tells which; "" if none does.
func (r *Tokens) take(signs ...string) string {
	s := r.sees(signs...)
	if s != "" {
		r.step()
	}
	return s
}

// step goes on to the next token.
func (r *Tokens) step() {
	t := r.now()
	if t.Kind == api.TSign {
		r.bracket(t.Text)
	}
	r.at++
}

func (r *Tokens) bracket(sign string) {
	switch sign {
	case "(", "[", "{":
		if r.open == api.MaxDepth {
			panic(fault{r.at, api.ErrDeep})
		}
		r.open++
	case ")", "]", "}":
		r.open--
	}
}

// want steps over a sign or reserved word that must come now.
func (r *Tokens) want(sign string) {
	if r.take(sign) == "" {
		r.fail()
	}
}

// name steps over a name that must come now.
func (r *Tokens) name() string {
	t := r.now()
	if t.Kind != api.TName {
		r.fail()
	}
	r.step()
	return t.Text
}

// node makes a Node at the place of the present token.
func (r *Tokens) node(kind int) api.Node {
	return api.Node{Kind: kind, At: r.now().At}
}

// listed reads parts with commas between, at least one.
func (r *Tokens) listed(part func() api.Node) []api.Node {
	l := []api.Node{part()}
	for r.take(",") != "" {
		l = append(l, part())
	}
	return l
}

// upTo reads listed parts, any number of them, and the sign that ends them.
func (r *Tokens) upTo(end string, part func() api.Node) []api.Node {
	if r.take(end) != "" {
		return nil
	}
	l := r.listed(part)
	r.want(end)
	return l
}

// function tells whether the ( that comes now begins a function.
func (r *Tokens) function() bool {
	first, second := r.behind(1), r.behind(2)
	return isSign(first, ")") || first.Kind == api.TName && isSign(second, ":")
}
