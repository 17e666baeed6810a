package tstmt

import (
	"plinth/api"
	"plinth/loose"
)

// block goes through the statements of a block, and tells whether one of them ends it.
func (k *checker) block(c context, n api.Node) bool {
	ends := false
	named := map[string]struct{}{}
	for _, s := range n.Parts {
		after, end := k.stat(c, s, named)
		c = after
		ends = ends || end
	}
	return ends
}

// stat goes through a statement, and tells the context behind it, and whether it ends what it stands in.
func (k *checker) stat(c context, n api.Node, named map[string]struct{}) (context, bool) {
	switch n.Kind {
	case api.SConst, api.SLet:
		return k.held(c, n, named), false
	case api.SAssign:
		k.assign(c, n)
	case api.SExpr:
		k.expr(c, n.Parts[0])
	case api.SThrow:
		k.expr(c, n.Parts[0])
		return c, true
	case api.SReturn:
		k.back(c, n)
		return c, true
	case api.SIf:
		return k.branches(c, n)
	case api.SWhile:
		_, behind := k.condition(c, n)
		k.block(behind(true), n.Parts[1])
	case api.STry:
		first := k.block(c, n.Parts[0])
		second := k.block(c.with(n.Text, api.Type{Kind: api.KUnknown}, true), n.Parts[1])
		return c, first && second
	case api.SBlock:
		return c, k.block(c, n)
	}
	return c, false
}

func (k *checker) held(c context, n api.Node, named map[string]struct{}) context {
	var t api.Type
	if n.N == 1 {
		t = k.meaning(c, n.Parts[0])
		k.fit(c, n.Parts[1], t)
	} else {
		t = k.expr(c, n.Parts[0])
		if n.Kind == api.SLet {
			t = widened(t)
		}
	}
	if _, found := named[n.Text]; found {
		k.tell(n, again, n.Text)
	}
	named[n.Text] = struct{}{}
	return c.with(n.Text, t, n.Kind == api.SConst)
}

func (k *checker) assign(c context, n api.Node) {
	target, value := n.Parts[0], n.Parts[1]
	if target.Kind == api.EMember {
		k.assignMember(c, n)
		return
	}
	v, found := c.find(target.Text)
	switch {
	case !found:
		k.tell(n, noValue, target.Text)
	case v.Const:
		k.tell(n, notWritten, target.Text)
	default:
		k.fit(c, value, v.Type)
		return
	}
	k.expr(c, value)
}

func (k *checker) assignMember(c context, n api.Node) {
	target, value := n.Parts[0], n.Parts[1]
	parts := k.spread(c, n, k.expr(c, target.Parts[0]))
	for _, p := range parts {
		f, found := loose.FieldOf(p, target.Text)
		if p.Kind != api.KAny && (!found || f.Flags&2 == 0) {
			k.tell(n, notWritten, target.Text)
			k.expr(c, value)
			return
		}
	}
	for _, p := range parts {
		if f, found := loose.FieldOf(p, target.Text); found {
			k.fit(c, value, f.Type)
			continue
		}
		k.expr(c, value)
	}
}

func (k *checker) back(c context, n api.Node) {
	switch {
	case len(c.result) == 0:
		k.tell(n, badReturn, "")
	case n.N == 1:
		k.fit(c, n.Parts[0], c.result[0])
	default:
		k.mustFit(c, n, api.Type{Kind: api.KNull}, c.result[0], misfit)
	}
}

func (k *checker) branches(c context, n api.Node) (context, bool) {
	_, behind := k.condition(c, n)
	yes, no := behind(true), behind(false)
	first, second := k.block(yes, n.Parts[1]), false
	if n.N == 1 {
		second = k.block(no, n.Parts[2])
	}
	switch {
	case first && second:
		return c, true
	case first:
		return no, false
	case second:
		return yes, false
	}
	return c, false
}

// body goes through the body of a function of that type.
func (k *checker) body(c context, n api.Node, t api.Type) {
	if t.Kind == api.KAny {
		return
	}
	c = c.withVars(t.Vars)
	last := len(t.Parts) - 1
	params := n.Parts[len(n.Parts)-2-last : len(n.Parts)-2]
	for i, p := range params {
		c = c.with(p.Text, t.Parts[i], true)
	}
	c.result = t.Parts[last:]
	block := n.Parts[len(n.Parts)-1]
	if !k.block(c, block) {
		k.mustFit(c, block, api.Type{Kind: api.KNull}, t.Parts[last], noReturn)
	}
}
