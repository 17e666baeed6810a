package tstmt

import (
	"plinth/api"
	"plinth/narrow"
)

// The kinds of narrow's tests.
const (
	ofKind    = 1
	ofLiteral = 2
	ofTruth   = 3
)

// after tells the context behind an expression that was yes or no.
type after func(yes bool) context

// flow tells the type of an expression, and the contexts behind it. What stands behind && and || is told by what was
// found of their parts, so that long chains of them are gone through once.
func (k *checker) flow(c context, n api.Node) (api.Type, after) {
	if n.Kind == api.EUnary && n.Text == "!" {
		return k.not(c, n)
	}
	if n.Kind == api.EBinary && (n.Text == "&&" || n.Text == "||") {
		return k.logic(c, n)
	}
	return k.expr(c, n), func(yes bool) context { return k.behind(c, n, yes) }
}

func (k *checker) not(c context, n api.Node) (api.Type, after) {
	x, part := k.flow(c, n.Parts[0])
	t := boolean()
	if !k.alone(c, n, x, "boolean") {
		t = k.wrong(n, wrongSign, n.Text)
	}
	return t, func(yes bool) context { return part(!yes) }
}

func (k *checker) logic(c context, n api.Node) (api.Type, after) {
	goesOn := n.Text == "&&"
	x, first := k.flow(c, n.Parts[0])
	y, second := k.flow(first(goesOn), n.Parts[1])
	t := boolean()
	if !k.bothAlone(c, n, x, y, "boolean") {
		t = k.wrong(n, wrongSign, n.Text)
	}
	return t, func(yes bool) context {
		if yes == goesOn {
			return second(yes)
		}
		return c
	}
}

// behind tells the context behind an expression that is none of the signs !, && and ||.
func (k *checker) behind(c context, n api.Node, yes bool) context {
	if n.Kind == api.EName {
		return k.tested(c, n, narrow.Test{Kind: ofTruth}, yes)
	}
	if n.Kind == api.EBinary && (n.Text == "===" || n.Text == "!==") {
		return k.equal(c, n.Parts[0], n.Parts[1], yes == (n.Text == "==="))
	}
	return c
}

// equal tells the context behind the answer whether two are the same.
func (k *checker) equal(c context, first, second api.Node, yes bool) context {
	if first.Kind == api.ETypeof && first.Parts[0].Kind == api.EName {
		if second.Kind == api.EStr && isKind(second.Text) {
			return k.tested(c, first.Parts[0], narrow.Test{Kind: ofKind, Text: second.Text}, yes)
		}
		return c
	}
	t, is := literal(second)
	if first.Kind != api.EName || !is {
		return c
	}
	return k.tested(c, first, narrow.Test{Kind: ofLiteral, Type: t}, yes)
}

// tested tells the context behind a test of a name, if the name is constant.
func (k *checker) tested(c context, n api.Node, x narrow.Test, yes bool) context {
	v, found := c.find(n.Text)
	if !found || !v.Const {
		return c
	}
	return c.with(v.Name, k.left(c, n, v.Type, x, yes), true)
}

func isKind(word string) bool {
	switch word {
	case "array", "boolean", "function", "null", "number", "object", "string":
		return true
	}
	return false
}
