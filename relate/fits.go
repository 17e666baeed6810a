package relate

import (
	"plinth/api"
	"plinth/loose"
	"plinth/types"
)

func (r *run) fits(s, t api.Type) bool {
	r.begin()
	if plainly(s, t) {
		return true
	}
	if s.Kind != api.KRef && t.Kind != api.KRef {
		return r.looked(s, t)
	}
	now := asking{s: s, t: t, nodes: [2]int{types.Nodes(s), types.Nodes(t)}, rows: r.rows}
	if r.supposed(&now) {
		return true
	}
	r.asked = append(r.asked, now)
	yes := r.looked(s, t)
	r.asked = r.asked[:len(r.asked)-1]
	return yes
}

// plainly tells whether s fits t whatever names stand for.
func plainly(s, t api.Type) bool {
	return t.Kind == api.KAny || t.Kind == api.KUnknown || s.Kind == api.KNever || same(s, t)
}

// supposed tells whether the same is being asked just now, with a row gone into since.
func (r *run) supposed(now *asking) bool {
	for i := range r.asked {
		a := &r.asked[i]
		if a.rows < now.rows && a.nodes == now.nodes && same(a.s, now.s) && same(a.t, now.t) {
			return true
		}
	}
	return false
}

// looked asks whether s fits t by what they come to.
func (r *run) looked(s, t api.Type) bool {
	a := r.head(s)
	b := r.head(t)
	switch {
	case plainly(a, b):
		return true
	case a.Kind == api.KAny:
		return false
	case a.Kind == api.KUnion:
		return all(a.Parts, func(p api.Type) bool { return r.fits(p, t) })
	case b.Kind == api.KUnion && some(b.Parts, func(p api.Type) bool { return r.fits(s, p) }):
		return true
	case open(&a):
		return r.opened(a, t)
	case open(&b):
		return false
	case b.Kind == api.KOver:
		return all(b.Parts, func(p api.Type) bool { return r.fits(a, p) })
	case a.Kind == api.KOver:
		return some(a.Parts, func(p api.Type) bool { return r.fits(p, b) })
	}
	r.rows++
	yes := r.row(a, b)
	r.rows--
	return yes
}

func all(l []api.Type, is func(api.Type) bool) bool {
	for _, t := range l {
		if !is(t) {
			return false
		}
	}
	return true
}

func some(l []api.Type, is func(api.Type) bool) bool {
	for _, t := range l {
		if is(t) {
			return true
		}
	}
	return false
}

// opened asks whether a, which is open, fits t by what is known of it.
func (r *run) opened(a, t api.Type) bool {
	switch a.Kind {
	case api.KVar:
		bound, found := r.bound(a)
		if !found {
			bound = api.Type{Kind: api.KUnknown}
		}
		return r.fits(bound, t)
	case api.KIndex:
		bound, found := r.bound(a.Parts[0])
		return found && r.fits(withFirst(a, bound), t)
	case api.KKeyof:
		return r.fits(api.Type{Kind: api.KString}, t)
	}
	return false
}

// bound tells the bound of a variable.
func (r *run) bound(t api.Type) (api.Type, bool) {
	if t.Kind != api.KVar {
		return api.Type{}, false
	}
	v := r.vars[t.Text]
	if v == nil || len(v.Bound) == 0 {
		return api.Type{}, false
	}
	return v.Bound[0], true
}

// row asks whether a fits b by their kinds.
func (r *run) row(a, b api.Type) bool {
	switch b.Kind {
	case api.KNumber:
		return a.Kind == api.KNum
	case api.KString:
		return a.Kind == api.KStr
	case api.KArray:
		return (a.Kind == api.KArray || a.Kind == api.KTuple) && all(a.Parts, func(p api.Type) bool { return r.fits(p, b.Parts[0]) })
	case api.KTuple:
		return a.Kind == api.KTuple && len(a.Parts) == len(b.Parts) && r.each(a.Parts, b.Parts)
	case api.KFunc:
		return a.Kind == api.KFunc && r.function(a, b)
	case api.KObject:
		return a.Kind == api.KObject && r.object(a, b)
	}
	return false
}

// each asks whether each part fits the one of its number.
func (r *run) each(a, b []api.Type) bool {
	for i := range a {
		if !r.fits(a[i], b[i]) {
			return false
		}
	}
	return true
}

func (r *run) function(a, b api.Type) bool {
	last, lastOf := len(a.Parts)-1, len(b.Parts)-1
	if len(a.Vars) > 0 || len(b.Vars) > 0 || last > lastOf {
		return false
	}
	return r.each(b.Parts[:last], a.Parts[:last]) && r.fits(a.Parts[last], b.Parts[lastOf])
}

func (r *run) object(a, b api.Type) bool {
	for _, f := range b.Fields {
		have, found := loose.FieldOf(a, f.Name)
		if !found || f.Flags&1 == 0 && have.Flags&1 != 0 || !r.fits(have.Type, f.Type) {
			return false
		}
		if f.Flags&2 != 0 && (have.Flags&2 == 0 || !r.fits(f.Type, have.Type)) {
			return false
		}
	}
	return true
}
