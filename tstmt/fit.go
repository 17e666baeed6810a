package tstmt

import "plinth/api"

// fit asks whether an expression fits a type.
func (k *checker) fit(c context, n api.Node, t api.Type) {
	switch n.Kind {
	case api.EObject:
		if target, found := k.objectOf(c, n, t); found {
			k.fitObject(c, n, target)
			return
		}
	case api.EArray:
		h := k.head(c, n, t)
		if h.Kind == api.KArray {
			for _, p := range n.Parts {
				k.fit(c, p, h.Parts[0])
			}
			return
		}
		if h.Kind == api.KTuple && len(h.Parts) == len(n.Parts) {
			k.fitAll(c, n.Parts, h.Parts)
			return
		}
	case api.ECond:
		_, behind := k.condition(c, n)
		k.fit(behind(true), n.Parts[1], t)
		k.fit(behind(false), n.Parts[2], t)
		return
	}
	k.mustFit(c, n, k.expr(c, n), t, misfit)
}

// objectOf tells the object type that t comes to, or the only one among its parts.
func (k *checker) objectOf(c context, n api.Node, t api.Type) (api.Type, bool) {
	h := k.head(c, n, t)
	if h.Kind == api.KObject {
		return h, true
	}
	var found []api.Type
	for _, p := range k.spread(c, n, t) {
		if p.Kind == api.KObject {
			found = append(found, p)
		}
	}
	if len(found) != 1 {
		return api.Type{}, false
	}
	return found[0], true
}

func (k *checker) fitObject(c context, n api.Node, target api.Type) {
	first := map[string]int{}
	for i, f := range n.Parts {
		if _, found := first[f.Text]; !found {
			first[f.Text] = i
		}
	}
	used := map[int]struct{}{}
	lacks := false
	for _, want := range target.Fields {
		i, found := first[want.Name]
		if !found {
			lacks = lacks || want.Flags&1 == 0
			continue
		}
		used[i] = struct{}{}
		k.fit(c, n.Parts[i].Parts[0], want.Type)
	}
	for i, f := range n.Parts {
		if _, done := used[i]; done {
			continue
		}
		if first[f.Text] != i {
			k.tell(f, twice, f.Text)
			continue
		}
		k.expr(c, f.Parts[0])
	}
	if lacks {
		k.tell(n, misfit, "")
	}
}
