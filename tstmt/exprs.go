package tstmt

import (
	"slices"
	"strings"

	"plinth/api"
	"plinth/loose"
	"plinth/narrow"
	"plinth/texpr"
	"plinth/types"
)

func (k *checker) expr(c context, n api.Node) api.Type {
	t := k.typed(c, n)
	if types.Nodes(t) > api.MaxParts {
		k.over(n)
		return anyType()
	}
	return t
}

func (k *checker) all(c context, l []api.Node) []api.Type {
	out := make([]api.Type, len(l))
	for i, n := range l {
		out[i] = k.expr(c, n)
	}
	return out
}

// literal tells the type of an expression that says its value by itself.
func literal(n api.Node) (api.Type, bool) {
	switch n.Kind {
	case api.ENum:
		return api.Type{Kind: api.KNum, N: n.N}, true
	case api.EStr:
		return api.Type{Kind: api.KStr, Text: n.Text}, true
	case api.ETrue:
		return api.Type{Kind: api.KTrue}, true
	case api.EFalse:
		return api.Type{Kind: api.KFalse}, true
	case api.ENull:
		return api.Type{Kind: api.KNull}, true
	}
	return api.Type{}, false
}

func (k *checker) typed(c context, n api.Node) api.Type {
	if t, is := literal(n); is {
		return t
	}
	switch n.Kind {
	case api.EName:
		if v, found := c.find(n.Text); found {
			return v.Type
		}
		return k.wrong(n, noValue, n.Text)
	case api.EThis:
		if len(c.this) > 0 {
			return c.this[0]
		}
		return k.wrong(n, noThis, "")
	case api.EObject:
		return k.object(c, n)
	case api.EArray:
		return api.Type{Kind: api.KTuple, Parts: k.all(c, n.Parts)}
	case api.EMember:
		return k.member(c, n)
	case api.EIndex:
		return k.index(c, n)
	case api.ECall:
		return k.call(c, n)
	case api.ENew:
		return k.made(c, n)
	case api.EFunc:
		return k.function(c, n)
	case api.EUnary:
		return k.unary(c, n)
	case api.EBinary:
		return k.binary(c, n)
	case api.ECond:
		return k.chosen(c, n)
	}
	x := k.expr(c, n.Parts[0])
	switch n.Kind {
	case api.EAs:
		return k.meaning(c, n.Parts[1])
	case api.ESure:
		return k.sure(c, n, x)
	}
	return kindWords()
}

// kindWords tells what ETypeof may come to.
func kindWords() api.Type {
	var l []api.Type
	for _, s := range [...]string{"array", "boolean", "function", "null", "number", "object", "string"} {
		l = append(l, api.Type{Kind: api.KStr, Text: s})
	}
	return types.Union(l...)
}

func (k *checker) sure(c context, n api.Node, x api.Type) api.Type {
	parts := k.spread(c, n, x)
	return types.Union(slices.DeleteFunc(parts, func(p api.Type) bool { return p.Kind == api.KNull })...)
}

func (k *checker) object(c context, n api.Node) api.Type {
	out := api.Type{Kind: api.KObject}
	seen := map[string]struct{}{}
	for _, f := range n.Parts {
		if _, found := seen[f.Text]; found {
			k.tell(f, twice, f.Text)
			continue
		}
		seen[f.Text] = struct{}{}
		out.Fields = append(out.Fields, api.Field{Name: f.Text, Type: k.expr(c, f.Parts[0])})
	}
	slices.SortFunc(out.Fields, func(a, b api.Field) int { return strings.Compare(a.Name, b.Name) })
	return out
}

func (k *checker) member(c context, n api.Node) api.Type {
	x := k.expr(c, n.Parts[0])
	key := api.Type{Kind: api.KStr, Text: n.Text}
	var out []api.Type
	for _, p := range k.spread(c, n, x) {
		kind := narrow.Kind(p)
		switch {
		case p.Kind == api.KAny:
			out = append(out, p)
		case hasField(p, key):
			out = append(out, loose.At(p, key))
		case n.Text == "length" && (kind == "array" || kind == "string"):
			out = append(out, api.Type{Kind: api.KNumber})
		default:
			return k.wrong(n, noMember, n.Text)
		}
	}
	return types.Union(out...)
}

// hasField tells whether p is an object with a field of that key.
func hasField(p, key api.Type) bool {
	if p.Kind != api.KObject || key.Kind != api.KStr {
		return false
	}
	_, found := loose.FieldOf(p, key.Text)
	return found
}

func (k *checker) index(c context, n api.Node) api.Type {
	l := k.all(c, n.Parts)
	parts, keys := k.spread(c, n, l[0]), k.spread(c, n, l[1])
	var out []api.Type
	for _, p := range parts {
		for _, key := range keys {
			switch {
			case p.Kind == api.KAny || key.Kind == api.KAny:
				out = append(out, anyType())
			case hasField(p, key), narrow.Kind(p) == "array" && narrow.Kind(key) == "number":
				out = append(out, loose.At(p, key))
			default:
				return k.wrong(n, noMember, "")
			}
		}
	}
	return types.Union(out...)
}

func (k *checker) call(c context, n api.Node) api.Type {
	h := k.head(c, n, k.expr(c, n.Parts[0]))
	args := n.Parts[1:]
	last := len(h.Parts) - 1
	if h.Kind == api.KFunc && len(h.Vars) == 0 && last == len(args) {
		k.fitAll(c, args, h.Parts[:last])
		return h.Parts[last]
	}
	return k.called(c, n, h, k.all(c, args))
}

// fitAll asks whether each expression fits the type of its number.
func (k *checker) fitAll(c context, l []api.Node, want []api.Type) {
	for i, n := range l {
		k.fit(c, n, want[i])
	}
}

func (k *checker) made(c context, n api.Node) api.Type {
	class, found := c.classes[n.Text]
	if found && len(class.Params) == len(n.Parts) {
		k.fitAll(c, n.Parts, class.Params)
		return api.Type{Kind: api.KRef, Text: class.Global}
	}
	k.all(c, n.Parts)
	if found {
		return k.wrong(n, notTaken, "")
	}
	return k.wrong(n, noClass, n.Text)
}

func (k *checker) function(c context, n api.Node) api.Type {
	t, diags, _ := texpr.Signature(c.types, n)
	k.diags = append(k.diags, diags...)
	k.body(c, n, t)
	return t
}

// chosen tells the type of an ECond.
func (k *checker) chosen(c context, n api.Node) api.Type {
	right, behind := k.condition(c, n)
	yes := k.expr(behind(true), n.Parts[1])
	no := k.expr(behind(false), n.Parts[2])
	if !right {
		return anyType()
	}
	return types.Union(yes, no)
}

// condition asks whether the first part of n is boolean alone, and tells the contexts behind it.
func (k *checker) condition(c context, n api.Node) (bool, after) {
	x, behind := k.flow(c, n.Parts[0])
	if !k.alone(c, n, x, "boolean") {
		k.tell(n, wrongSign, "if")
		return false, behind
	}
	return true, behind
}
