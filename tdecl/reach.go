package tdecl

import (
	"plinth/api"
	"plinth/bind"
	"plinth/relate"
)

// isClass tells whether a symbol is a class.
func (p *project) isClass(s bind.Symbol) bool {
	return s.Kinds&1 != 0 && p.declared[p.global(s)].kind() == api.DClass
}

// isValue tells whether a symbol is a value of its own.
func (p *project) isValue(s bind.Symbol) bool {
	return s.Kinds&2 != 0 && !p.isClass(s)
}

func isTypeKind(kind int) bool {
	return kind == api.DType || kind == api.DInterface || kind == api.DClass
}

// reach gathers that part of a project's world that some types speak of, and what these speak of, and so on. What is
// asked of them is answered in it as in the whole; a small world is quicker asked whether it is right.
type reach struct {
	project *project
	seen    map[string]struct{}
	world   relate.World
}

func (p *project) newReach() *reach {
	return &reach{project: p, seen: map[string]struct{}{}, world: relate.World{Fuel: fuel}}
}

// name takes a declared type, by its global name.
func (r *reach) name(global string) {
	d := r.project.declared[global]
	if _, done := r.seen[global]; done || d == nil {
		return
	}
	r.seen[global] = struct{}{}
	r.world.Decls = append(r.world.Decls, relate.Decl{Name: global, Vars: d.vars, Type: d.means})
	r.typed(&d.means)
}

// typed takes the names that stand in a type.
func (r *reach) typed(t *api.Type) {
	if t.Kind == api.KRef {
		r.name(t.Text)
	}
	for i := range t.Parts {
		r.typed(&t.Parts[i])
	}
	for i := range t.Fields {
		r.typed(&t.Fields[i].Type)
	}
	r.vars(t.Vars)
}

func (r *reach) vars(l []api.Var) {
	for i := range l {
		for j := range l[i].Bound {
			r.typed(&l[i].Bound[j])
		}
	}
}
