package loose

import (
	"plinth/api"
	"plinth/terms"
	"plinth/types"
)

// Gathered is a name of a place named by infer, and the types that it gathered.
type Gathered struct {
	Name  string
	Types []api.Type
}

// Stands tells what the name stands for: the union of what it gathered, or KUnknown, if that was nothing.
func (g Gathered) Stands() api.Type {
	if len(g.Types) == 0 {
		return api.Type{Kind: api.KUnknown}
	}
	return types.Union(g.Types...)
}

// Gather holds t against the pattern p, and tells what each name of its places gathered, rising by the names.
func Gather(t, p api.Type) []Gathered {
	g := gatherer{}
	g.hold(&t, &p)
	var l []Gathered
	for _, name := range terms.Infers(p) {
		l = append(l, Gathered{Name: name, Types: g[name]})
	}
	return l
}

// gatherer has the types that names have gathered so far.
type gatherer map[string][]api.Type

func (g gatherer) hold(t, p *api.Type) {
	if !terms.HasInfer(p) {
		return
	}
	switch p.Kind {
	case api.KInfer:
		g[p.Text] = append(g[p.Text], *t)
	case api.KUnion:
		for i := range p.Parts {
			g.hold(t, &p.Parts[i])
		}
	case api.KArray, api.KTuple, api.KFunc, api.KObject, api.KRef:
		if t.Kind == api.KUnion {
			for i := range t.Parts {
				g.hold(&t.Parts[i], p)
			}
			return
		}
		g.inside(t, p)
	}
}

// inside holds the parts of t against those of p, if the two are alike.
func (g gatherer) inside(t, p *api.Type) {
	switch {
	case p.Kind == api.KArray && t.Kind == api.KTuple:
		u := types.Union(t.Parts...)
		g.hold(&u, &p.Parts[0])
	case p.Kind != t.Kind:
	case p.Kind == api.KArray:
		g.hold(&t.Parts[0], &p.Parts[0])
	case p.Kind == api.KTuple:
		g.parts(t, p)
	case p.Kind == api.KRef && p.Text == t.Text:
		g.parts(t, p)
	case p.Kind == api.KFunc && len(t.Vars) == 0:
		last, lastOf := len(t.Parts)-1, len(p.Parts)-1
		for i := range min(last, lastOf) {
			g.hold(&t.Parts[i], &p.Parts[i])
		}
		g.hold(&t.Parts[last], &p.Parts[lastOf])
	case p.Kind == api.KObject:
		for i := range p.Fields {
			if f, found := FieldOf(*t, p.Fields[i].Name); found {
				held := Held(f)
				g.hold(&held, &p.Fields[i].Type)
			}
		}
	}
}

// parts holds each part against that of its number, if there are as many.
func (g gatherer) parts(t, p *api.Type) {
	if len(t.Parts) != len(p.Parts) {
		return
	}
	for i := range p.Parts {
		g.hold(&t.Parts[i], &p.Parts[i])
	}
}
