package relate

import (
	"slices"

	"plinth/api"
	"plinth/cond"
	"plinth/eval"
	"plinth/loose"
	"plinth/subst"
	"plinth/types"
)

func (r *run) head(t api.Type) api.Type {
	for {
		r.begin()
		next, more := t, false
		switch t.Kind {
		case api.KRef:
			next, more = r.named(t)
		case api.KKeyof:
			next = r.keys(t)
		case api.KIndex:
			next, more = r.index(t)
		case api.KMapped:
			next = r.mapped(t)
		case api.KCond:
			next = r.cond(t)
		}
		if !more {
			return next
		}
		t = next
	}
}

func (r *run) spread(t api.Type) api.Type {
	h := r.head(t)
	if h.Kind != api.KUnion {
		return h
	}
	parts := make([]api.Type, len(h.Parts))
	for i, p := range h.Parts {
		parts[i] = r.spread(p)
	}
	return types.Union(parts...)
}

// named tells what a KRef stands for, whose head is wanted then.
func (r *run) named(t api.Type) (api.Type, bool) {
	d := r.decls[t.Text]
	if d == nil || len(d.Vars) != len(t.Parts) {
		return api.Type{Kind: api.KUnknown}, false
	}
	var binds []subst.Bind
	for i, v := range d.Vars {
		binds = append(binds, subst.Bind{Name: v.Name, Type: t.Parts[i]})
	}
	return need(subst.Of(d.Type, binds...)), true
}

func (r *run) keys(t api.Type) api.Type {
	h := r.spread(t.Parts[0])
	if open(&h) {
		return api.Type{Kind: api.KKeyof, Parts: []api.Type{h}}
	}
	return loose.Keys(h)
}

// index tells what stands at an index, whose head is wanted then, unless it is open.
func (r *run) index(t api.Type) (api.Type, bool) {
	a, k := r.spread(t.Parts[0]), r.spread(t.Parts[1])
	if open(&a) || open(&k) {
		return api.Type{Kind: api.KIndex, Parts: []api.Type{a, k}}, false
	}
	return loose.At(a, k), true
}

func (r *run) mapped(t api.Type) api.Type {
	k := r.spread(t.Parts[0])
	if open(&k) {
		return withFirst(t, k)
	}
	return need(eval.Map(t.Text, k, t.Parts[1], int(t.N)))
}

// withFirst tells t with another first part.
func withFirst(t, first api.Type) api.Type {
	t.Parts = slices.Clone(t.Parts)
	t.Parts[0] = first
	return t
}

func (r *run) cond(t api.Type) api.Type {
	c := r.spread(t.Parts[0])
	if len(types.Free(c)) > 0 || hangs(t) {
		return withFirst(t, c)
	}
	if t.N == 0 {
		return types.Union(r.branch(t, c))
	}
	var l []api.Type
	for _, p := range loose.Parts(c) {
		l = append(l, r.branch(t, p))
	}
	return types.Union(l...)
}

// hangs tells whether what a KCond asks for has free variables, but the one that stands for what is asked.
func hangs(t api.Type) bool {
	for _, name := range types.Free(t.Parts[1]) {
		if t.N == 0 || name != t.Text {
			return true
		}
	}
	return false
}

// branch tells the head of the part of a KCond that p leads to.
func (r *run) branch(t, p api.Type) api.Type {
	var asked []subst.Bind
	if t.N == 1 {
		asked = []subst.Bind{{Name: t.Text, Type: p}}
	}
	q := need(subst.Of(t.Parts[1], asked...))
	found := gather(p, q)
	if !r.alone(p, need(cond.Fill(q, found...))) {
		return r.head(need(subst.Of(t.Parts[3], asked...)))
	}
	// What was gathered goes first: within the third part its names hide the one that stands for what is asked.
	var binds []subst.Bind
	for _, f := range found {
		binds = append(binds, subst.Bind{Name: f.Name, Type: f.Type})
	}
	return r.head(need(subst.Of(t.Parts[2], append(binds, asked...)...)))
}

// gather tells what the places of q stand for, with p held against it.
func gather(p, q api.Type) []cond.Found {
	var l []cond.Found
	for _, g := range loose.Gather(p, q) {
		l = append(l, cond.Found{Name: g.Name, Type: g.Stands()})
	}
	return l
}

// alone asks whether s fits t as if nothing else were being asked.
func (r *run) alone(s, t api.Type) bool {
	asked, rows := r.asked, r.rows
	r.asked, r.rows = nil, 0
	yes := r.fits(s, t)
	r.asked, r.rows = asked, rows
	return yes
}
