package tdecl

import (
	"strings"

	"plinth/api"
	"plinth/bind"
	"plinth/relate"
	"plinth/texpr"
	"plinth/tree"
	"plinth/types"
)

// fuel is what each question of a project may take.
const fuel = 2000

// project is the units that a file reaches, and what their declarations mean.
type project struct {
	units   []bind.Unit
	numbers map[string]int
	scopes  []bind.Scope
	faults  []api.Diag
	// names has the types that each unit may name; declared the types by their global names.
	names    []map[string]texpr.Name
	declared map[string]*declared
	values   map[place]api.Type
	world    relate.World
}

// place is where a symbol is declared.
type place struct {
	unit int
	name string
}

func newProject(name string, units []bind.Unit) (*project, api.Errno) {
	reached, e := bind.Reach(name, units...)
	if e != api.OK {
		return nil, e
	}
	byName := map[string]bind.Unit{}
	for _, u := range units {
		byName[u.Name] = u
	}
	p := &project{numbers: map[string]int{}, declared: map[string]*declared{}, values: map[place]api.Type{}, world: relate.World{Fuel: fuel}}
	for i, name := range reached {
		p.numbers[name] = i
		p.units = append(p.units, byName[name])
	}
	p.scopes, p.faults, _ = bind.Link(p.units...)
	p.name()
	return p, p.mean()
}

// global tells what a type is called globally.
func (p *project) global(s bind.Symbol) string {
	return s.Name + strings.Repeat("'", p.numbers[s.File])
}

// name finds the declared types, and makes the units' scopes of types.
func (p *project) name() {
	for i, scope := range p.scopes {
		for _, s := range scope.Symbols {
			if s.Kinds&1 != 0 && s.File == scope.File {
				p.declared[p.global(s)] = p.found(i, s)
			}
		}
	}
	for _, scope := range p.scopes {
		names := map[string]texpr.Name{}
		for _, s := range scope.Symbols {
			if s.Kinds&1 != 0 {
				global := p.global(s)
				names[s.Name] = texpr.Name{Text: s.Name, Global: global, Arity: len(p.declared[global].varsOf(0))}
			}
		}
		p.names = append(p.names, names)
	}
}

// scope tells the scope of types of a unit, as far as some nodes speak of it.
func (p *project) scope(unit int, nodes ...api.Node) texpr.Scope {
	var s texpr.Scope
	for _, n := range nodes {
		for _, name := range tree.Names(n) {
			if one, found := p.names[unit][name]; found {
				s.Names = append(s.Names, one)
			}
		}
	}
	return s
}

// found tells a declared type as it stands, without what it means.
func (p *project) found(unit int, s bind.Symbol) *declared {
	d := &declared{unit: unit, global: p.global(s)}
	for _, i := range s.Decls {
		n := p.units[unit].Node.Parts[i]
		switch n.Kind {
		case api.DType, api.DInterface, api.DClass:
			d.decls = append(d.decls, &declaration{node: n})
		}
	}
	return d
}

// mean works out what all types mean, and the world.
func (p *project) mean() api.Errno {
	for _, scope := range p.scopes {
		p.each(scope, func(d *declared) { p.begin(d) })
	}
	for _, scope := range p.scopes {
		p.each(scope, func(d *declared) { p.findLoops(d) })
	}
	for _, scope := range p.scopes {
		p.each(scope, func(d *declared) {
			p.finish(d)
			p.world.Decls = append(p.world.Decls, relate.Decl{Name: d.global, Vars: d.vars, Type: d.means})
		})
	}
	for _, d := range p.world.Decls {
		if !types.Formed(d.Type) {
			return api.ErrLarge
		}
	}
	return api.OK
}

// each goes through the types that a unit itself declares, rising by their names.
func (p *project) each(scope bind.Scope, do func(*declared)) {
	for _, s := range scope.Symbols {
		if s.Kinds&1 != 0 && s.File == scope.File {
			do(p.declared[p.global(s)])
		}
	}
}

// value tells the type of a value.
func (p *project) value(s bind.Symbol) api.Type {
	unit := p.numbers[s.File]
	at := place{unit, s.Name}
	if t, done := p.values[at]; done {
		return t
	}
	t := p.valueOf(unit, s)
	p.values[at] = t
	return t
}

func (p *project) valueOf(unit int, s bind.Symbol) api.Type {
	var overs []api.Type
	for _, i := range s.Decls {
		n := p.units[unit].Node.Parts[i]
		switch n.Kind {
		case api.DConst:
			t, _, _ := texpr.Of(p.scope(unit, n), n.Parts[0])
			return t
		case api.DOver:
			t, _, _ := texpr.Signature(p.scope(unit, n), n)
			overs = append(overs, t)
		case api.DFunc:
			if len(overs) == 0 {
				t, _, _ := texpr.Signature(p.scope(unit, n), n)
				return t
			}
		}
	}
	return over(overs)
}

// over tells the type of a function by its overloads.
func over(l []api.Type) api.Type {
	for _, t := range l {
		if t.Kind != api.KFunc {
			return api.Type{Kind: api.KAny}
		}
	}
	if len(l) == 1 {
		return l[0]
	}
	return api.Type{Kind: api.KOver, Parts: l}
}
