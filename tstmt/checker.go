package tstmt

import (
	"plinth/api"
	"plinth/infer"
	"plinth/loose"
	"plinth/narrow"
	"plinth/relate"
	"plinth/texpr"
	"plinth/types"
)

// The codes of the Diags.
const (
	twice      = 9
	noValue    = 20
	notTaken   = 21
	noMember   = 22
	wrongSign  = 23
	misfit     = 24
	notWritten = 25
	noThis     = 26
	limit      = 27
	noReturn   = 28
	noClass    = 29
	again      = 30
	badReturn  = 31
)

// checker gathers what is wrong; limited has the places at which a limit was told.
type checker struct {
	diags   []api.Diag
	limited map[int]struct{}
}

func newChecker() *checker {
	return &checker{limited: map[int]struct{}{}}
}

func anyType() api.Type {
	return api.Type{Kind: api.KAny}
}

func boolean() api.Type {
	return types.Union(api.Type{Kind: api.KTrue}, api.Type{Kind: api.KFalse})
}

func (k *checker) tell(n api.Node, code int, text string) {
	k.diags = append(k.diags, api.Diag{At: n.At, Code: code, Text: text})
}

// wrong tells what is wrong with an expression; its type is KAny then.
func (k *checker) wrong(n api.Node, code int, text string) api.Type {
	k.tell(n, code, text)
	return anyType()
}

// over tells that a limit was reached, once at a place.
func (k *checker) over(n api.Node) {
	if _, told := k.limited[n.At]; told {
		return
	}
	k.limited[n.At] = struct{}{}
	k.tell(n, limit, "")
}

// meaning tells what a type's tree means.
func (k *checker) meaning(c context, n api.Node) api.Type {
	t, diags, _ := texpr.Of(c.types, n)
	k.diags = append(k.diags, diags...)
	return t
}

// head, spread, fits, called and left ask the layers below; at the node n it is told if they reach a limit.

func (k *checker) head(c context, n api.Node, t api.Type) api.Type {
	h, _, e := relate.Head(c.world, t)
	if e != api.OK {
		k.over(n)
		return anyType()
	}
	return h
}

func (k *checker) spread(c context, n api.Node, t api.Type) []api.Type {
	h, _, e := relate.Spread(c.world, t)
	if e != api.OK {
		k.over(n)
		return []api.Type{anyType()}
	}
	return loose.Parts(h)
}

// mustFit asks whether s fits t, and tells the code at the node if not.
func (k *checker) mustFit(c context, n api.Node, s, t api.Type, code int) {
	yes, _, e := relate.Fits(c.world, s, t)
	if e != api.OK {
		k.over(n)
		return
	}
	if !yes {
		k.tell(n, code, "")
	}
}

func (k *checker) called(c context, n api.Node, f api.Type, args []api.Type) api.Type {
	t, e := infer.Call(c.world, f, args...)
	switch e {
	case api.OK:
		return t
	case api.ErrNone:
		return k.wrong(n, notTaken, "")
	}
	k.over(n)
	return anyType()
}

func (k *checker) left(c context, n api.Node, t api.Type, x narrow.Test, yes bool) api.Type {
	left, e := narrow.Behind(c.world, t, x, yes)
	if e != api.OK {
		k.over(n)
		return t
	}
	return left
}

// alone tells whether a type is of a kind alone.
func (k *checker) alone(c context, n api.Node, t api.Type, kind string) bool {
	for _, p := range k.spread(c, n, t) {
		if p.Kind != api.KAny && narrow.Kind(p) != kind {
			return false
		}
	}
	return true
}

// bothAlone tells whether two types are of a kind alone; the second one is asked just if the first one is so.
func (k *checker) bothAlone(c context, n api.Node, x, y api.Type, kind string) bool {
	return k.alone(c, n, x, kind) && k.alone(c, n, y, kind)
}
