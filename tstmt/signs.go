package tstmt

import (
	"plinth/api"
	"plinth/types"
)

// minus tells the type of an EUnary with the sign -.
func (k *checker) minus(c context, n api.Node) api.Type {
	if !k.alone(c, n, k.expr(c, n.Parts[0]), "number") {
		return k.wrong(n, wrongSign, n.Text)
	}
	return api.Type{Kind: api.KNumber}
}

func (k *checker) unary(c context, n api.Node) api.Type {
	if n.Text == "-" {
		return k.minus(c, n)
	}
	t, _ := k.not(c, n)
	return t
}

func (k *checker) binary(c context, n api.Node) api.Type {
	if n.Text == "&&" || n.Text == "||" {
		t, _ := k.logic(c, n)
		return t
	}
	x := k.expr(c, n.Parts[0])
	y := k.expr(c, n.Parts[1])
	t := boolean()
	switch n.Text {
	case "===", "!==":
		return t
	case "+":
		return k.plus(c, n, x, y)
	case "-", "*", "/", "%":
		t = api.Type{Kind: api.KNumber}
	}
	if !k.bothAlone(c, n, x, y, "number") {
		return k.wrong(n, wrongSign, n.Text)
	}
	return t
}

func (k *checker) plus(c context, n api.Node, x, y api.Type) api.Type {
	t := api.Type{Kind: api.KNumber}
	if !k.bothAlone(c, n, x, y, "number") {
		t.Kind = api.KString
		if !k.bothAlone(c, n, x, y, "string") {
			return k.wrong(n, wrongSign, n.Text)
		}
	}
	for _, p := range append(k.spread(c, n, x), k.spread(c, n, y)...) {
		if p.Kind == api.KAny {
			return p
		}
	}
	return t
}

// widened tells the type of a let that holds a literal.
func widened(t api.Type) api.Type {
	var l []api.Type
	parts := []api.Type{t}
	if t.Kind == api.KUnion {
		parts = t.Parts
	}
	for _, p := range parts {
		switch p.Kind {
		case api.KNum:
			p = api.Type{Kind: api.KNumber}
		case api.KStr:
			p = api.Type{Kind: api.KString}
		case api.KTrue, api.KFalse:
			p = boolean()
		}
		l = append(l, p)
	}
	return types.Union(l...)
}
