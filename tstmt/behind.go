package tstmt

import (
	"plinth/api"
	"plinth/narrow"
)

// The kinds of narrow's tests.
const (
	ofKind    = 1
	ofLiteral = 2
	ofTruth   = 3
)

// behind tells the context behind an expression that was yes or no.
func (k *checker) behind(c context, n api.Node, yes bool) context {
	switch n.Kind {
	case api.EName:
		return k.tested(c, n, narrow.Test{Kind: ofTruth}, yes)
	case api.EUnary:
		if n.Text == "!" {
			return k.behind(c, n.Parts[0], !yes)
		}
	case api.EBinary:
		return k.behindSign(c, n, yes)
	}
	return c
}

func (k *checker) behindSign(c context, n api.Node, yes bool) context {
	first, second := n.Parts[0], n.Parts[1]
	switch n.Text {
	case "===":
		return k.equal(c, first, second, yes)
	case "!==":
		return k.equal(c, first, second, !yes)
	case "&&", "||":
		if yes == (n.Text == "&&") {
			return k.behind(k.behind(c, first, yes), second, yes)
		}
	}
	return c
}

// equal tells the context behind the answer whether two are the same.
func (k *checker) equal(c context, first, second api.Node, yes bool) context {
	if first.Kind == api.ETypeof && first.Parts[0].Kind == api.EName {
		if second.Kind == api.EStr && isKind(second.Text) {
			return k.tested(c, first.Parts[0], narrow.Test{Kind: ofKind, Text: second.Text}, yes)
		}
		return c
	}
	t, is := literal(second)
	if first.Kind != api.EName || !is {
		return c
	}
	return k.tested(c, first, narrow.Test{Kind: ofLiteral, Type: t}, yes)
}

// tested tells the context behind a test of a name, if the name is constant.
func (k *checker) tested(c context, n api.Node, x narrow.Test, yes bool) context {
	v, found := c.find(n.Text)
	if !found || !v.Const {
		return c
	}
	return c.with(v.Name, k.left(c, n, v.Type, x, yes), true)
}

func isKind(word string) bool {
	switch word {
	case "array", "boolean", "function", "null", "number", "object", "string":
		return true
	}
	return false
}
