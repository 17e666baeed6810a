package testkit

import (
	"slices"
	"strings"

	"plinth/api"
	"plinth/scan"
	"plinth/types"
)

// T makes the type of a text as layer 9 tells it, unions in their normal form. A name of one capital letter (and any
// number of ') is a variable, any other a KRef; A<> is a KRef too; boolean is true | false. It panics at other texts.
func T(s string) api.Type {
	tokens, _ := scan.Cut(s)
	r := &reader{tokens: tokens, text: s}
	t := r.typed()
	if r.tokens[r.at].Kind != api.TEnd {
		r.fail()
	}
	return t
}

type reader struct {
	tokens []api.Token
	at     int
	text   string
}

func (r *reader) fail() {
	panic("no type: " + r.text + " at " + r.tokens[r.at].Text)
}

func (r *reader) sees(word string) bool {
	t := r.tokens[r.at]
	return t.Text == word && (t.Kind == api.TSign || t.Kind == api.TWord)
}

func (r *reader) take(word string) bool {
	if r.sees(word) {
		r.at++
		return true
	}
	return false
}

func (r *reader) want(word string) {
	if !r.take(word) {
		r.fail()
	}
}

func (r *reader) name() string {
	if r.tokens[r.at].Kind != api.TName {
		r.fail()
	}
	s := r.tokens[r.at].Text
	r.at++
	for r.tokens[r.at].Text == "'" {
		s += "'"
		r.at++
	}
	return s
}

func (r *reader) typed() api.Type {
	start := r.at
	var t api.Type
	if r.tokens[r.at].Kind == api.TName {
		t.Text, t.N = r.name(), 1
		if !r.take("=") {
			t, r.at = api.Type{}, start
		}
	}
	first := r.union()
	if !r.take("extends") {
		return first
	}
	second := r.union()
	r.want("?")
	third := r.typed()
	r.want(":")
	t.Kind, t.Parts = api.KCond, []api.Type{first, second, third, r.typed()}
	return t
}

func (r *reader) union() api.Type {
	l := []api.Type{r.over()}
	for r.take("|") {
		l = append(l, r.over())
	}
	return types.Union(l...)
}

func (r *reader) over() api.Type {
	l := []api.Type{r.post()}
	for r.take("&") {
		l = append(l, r.post())
	}
	if len(l) == 1 {
		return l[0]
	}
	return api.Type{Kind: api.KOver, Parts: l}
}

func (r *reader) post() api.Type {
	t := r.prim()
	for r.take("[") {
		if r.take("]") {
			t = api.Type{Kind: api.KArray, Parts: []api.Type{t}}
			continue
		}
		t = api.Type{Kind: api.KIndex, Parts: []api.Type{t, r.typed()}}
		r.want("]")
	}
	return t
}

func (r *reader) prim() api.Type {
	x := r.tokens[r.at]
	switch x.Kind {
	case api.TName:
		return r.named()
	case api.TNumber:
		r.at++
		return api.Type{Kind: api.KNum, N: x.N}
	case api.TString:
		r.at++
		return api.Type{Kind: api.KStr, Text: x.Text}
	case api.TWord:
		r.at++
		return r.word(x.Text)
	}
	switch {
	case r.sees("<"), r.sees("("):
		return r.function()
	case r.take("["):
		return api.Type{Kind: api.KTuple, Parts: r.list("]")}
	}
	r.want("{")
	return r.braces()
}

func (r *reader) named() api.Type {
	s := r.name()
	if r.take("<") {
		return api.Type{Kind: api.KRef, Text: s, Parts: r.list(">")}
	}
	if len(strings.TrimRight(s, "'")) == 1 && s[0] >= 'A' && s[0] <= 'Z' {
		return api.Type{Kind: api.KVar, Text: s}
	}
	return api.Type{Kind: api.KRef, Text: s}
}

func (r *reader) word(s string) api.Type {
	switch s {
	case "keyof":
		return api.Type{Kind: api.KKeyof, Parts: []api.Type{r.post()}}
	case "infer":
		return api.Type{Kind: api.KInfer, Text: r.name()}
	case "boolean":
		return types.Union(api.Type{Kind: api.KTrue}, api.Type{Kind: api.KFalse})
	}
	kind := slices.Index([]string{"never", "unknown", "any", "null", "true", "false", "number", "string"}, s) + 1
	if kind == 0 {
		r.fail()
	}
	return api.Type{Kind: kind}
}

// list reads types with commas between, and what ends them.
func (r *reader) list(end string) []api.Type {
	var l []api.Type
	for !r.take(end) {
		l = append(l, r.typed())
		if !r.sees(end) {
			r.want(",")
		}
	}
	return l
}

// function reads a function, or a type in brackets.
func (r *reader) function() api.Type {
	t := api.Type{Kind: api.KFunc}
	if r.take("<") {
		for len(t.Vars) == 0 || r.take(",") {
			v := api.Var{Name: r.name()}
			if r.take("extends") {
				v.Bound = []api.Type{r.typed()}
			}
			t.Vars = append(t.Vars, v)
		}
		r.want(">")
	}
	r.want("(")
	t.Parts = r.list(")")
	if r.take("=>") {
		t.Parts = append(t.Parts, r.typed())
		return t
	}
	if len(t.Parts) != 1 || len(t.Vars) != 0 {
		r.fail()
	}
	return t.Parts[0]
}

func (r *reader) flag(word string, worth int) int {
	if r.take(word) {
		return worth
	}
	return 0
}

// braces reads fields, or a mapped type.
func (r *reader) braces() api.Type {
	t := api.Type{Kind: api.KObject}
	for !r.take("}") {
		flags := r.flag("mut", 2)
		if r.take("[") {
			return r.mapped(flags)
		}
		f := api.Field{Name: r.name()}
		f.Flags = flags + r.flag("?", 1)
		r.want(":")
		f.Type = r.typed()
		r.want(";")
		t.Fields = append(t.Fields, f)
	}
	slices.SortFunc(t.Fields, func(a, b api.Field) int { return strings.Compare(a.Name, b.Name) })
	return t
}

func (r *reader) mapped(flags int) api.Type {
	t := api.Type{Kind: api.KMapped, Text: r.name()}
	r.want("in")
	keys := r.typed()
	r.want("]")
	t.N = int64(flags + r.flag("?", 1))
	r.want(":")
	t.Parts = []api.Type{keys, r.typed()}
	r.want("}")
	return t
}

// Text tells the text of a type, or that it isn't formed.
func Text(t api.Type) string {
	s, e := types.Text(t)
	if e != api.OK {
		return "(a type that isn't formed)"
	}
	return s
}
