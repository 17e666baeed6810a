package tdecl

import (
	"plinth/api"
	"plinth/bind"
	"plinth/relate"
	"plinth/texpr"
	"plinth/tree"
	"plinth/tstmt"
	"plinth/types"
)

// check gathers what is wrong in one unit of a project. The context has what the declaration that it is at speaks of.
type check struct {
	project *project
	unit    int
	symbols map[string]bind.Symbol
	context tstmt.Context
	// mute: a value of the unit has a type that isn't formed, so that no context with all values is right.
	mute  bool
	diags []api.Diag
}

func newCheck(p *project, unit int) *check {
	k := &check{project: p, unit: unit, symbols: map[string]bind.Symbol{}}
	for _, s := range p.scopes[unit].Symbols {
		k.symbols[s.Name] = s
		if p.isValue(s) && !types.Formed(p.value(s)) {
			k.mute = true
		}
	}
	return k
}

// enter makes the context of a declaration.
func (k *check) enter(n api.Node) {
	p := k.project
	c := tstmt.Context{Types: p.scope(k.unit, n)}
	r := p.newReach()
	for _, one := range c.Types.Names {
		r.name(one.Global)
	}
	for _, name := range tree.Names(n) {
		s, found := k.symbols[name]
		switch {
		case !found:
		case p.isValue(s):
			t := p.value(s)
			c.Values = append(c.Values, tstmt.Value{Name: name, Type: t, Const: true})
			r.typed(&t)
		case p.isClass(s):
			d := p.declared[p.global(s)]
			c.Classes = append(c.Classes, tstmt.Class{Name: name, Global: d.global, Params: d.params})
			for i := range d.params {
				r.typed(&d.params[i])
			}
		}
	}
	if d := p.declared[p.global(k.symbols[n.Text])]; d != nil {
		r.name(d.global)
	}
	c.World = r.world
	k.context = c
}

func (k *check) tell(n api.Node, code int) {
	k.diags = append(k.diags, api.Diag{At: n.At, Code: code})
}

// file tells what is wrong in the unit.
func (k *check) file() []api.Diag {
	u := k.project.units[k.unit]
	for _, d := range k.project.faults {
		if d.File == u.Name {
			k.diags = append(k.diags, d)
		}
	}
	for _, s := range k.project.scopes[k.unit].Symbols {
		if s.File == u.Name {
			k.symbol(s)
		}
	}
	return k.diags
}

// symbol tells what is wrong in the declarations of a symbol.
func (k *check) symbol(s bind.Symbol) {
	if s.Kinds&1 != 0 {
		d := k.project.declared[k.project.global(s)]
		for _, one := range d.decls {
			k.declared(d, one)
		}
	}
	parts := k.project.units[k.unit].Node.Parts
	var function api.Node
	for _, i := range s.Decls {
		if parts[i].Kind == api.DFunc {
			function = parts[i]
		}
	}
	for _, i := range s.Decls {
		n := parts[i]
		if !isTypeKind(n.Kind) {
			k.enter(n)
		}
		switch n.Kind {
		case api.DFunc:
			k.signature(n)
			k.body(k.context, n)
		case api.DOver:
			k.over(n, function)
		case api.DConst:
			k.fit(k.context, n.Parts[1], k.meaning(n.Parts[0]))
		}
	}
}

// declared tells what is wrong in a declaration of a type.
func (k *check) declared(d *declared, one *declaration) {
	k.diags = append(k.diags, one.diags...)
	if one.leftOut {
		return
	}
	k.enter(one.node)
	switch d.kind() {
	case api.DType:
		self := d.self(one.vars)
		if _, _, e := relate.Spread(k.world(one.vars, self), self); e != api.OK {
			k.tell(one.node, limit)
		}
	case api.DInterface:
		for _, x := range one.extends {
			if x.holds() {
				k.mustFit(x.node, one.vars, d.self(one.vars), x.means)
			}
		}
	case api.DClass:
		k.class(d, one)
	}
}

// world tells the project's world as far as some types speak of it, with type variables ahead.
func (k *check) world(vars []api.Var, l ...api.Type) relate.World {
	r := k.project.newReach()
	for i := range l {
		r.typed(&l[i])
	}
	r.vars(vars)
	r.world.Vars = vars
	return r.world
}

// mustFit asks whether s fits t, and tells at the node if not.
func (k *check) mustFit(n api.Node, vars []api.Var, s, t api.Type) {
	yes, _, e := relate.Fits(k.world(vars, s, t), s, t)
	if e != api.OK {
		k.tell(n, limit)
		return
	}
	if !yes {
		k.tell(n, misfit)
	}
}

func (k *check) class(d *declared, one *declaration) {
	n, self := one.node, d.self(nil)
	inside := k.withParams(n.Parts[:n.N], d.params)
	for _, x := range one.extends {
		if x.holds() {
			k.base(x, inside)
			k.mustFit(x.node, nil, self, x.means)
		}
	}
	for _, m := range ofKind(n.Parts, api.DMeets) {
		t, diags, _ := texpr.Of(k.context.Types, m.Parts[0])
		k.diags = append(k.diags, diags...)
		if len(diags) == 0 {
			k.mustFit(m, nil, self, t)
		}
	}
	for _, h := range ofKind(n.Parts, api.DHolds) {
		k.fit(inside, h.Parts[1], k.meaning(h.Parts[0]))
	}
	within := k.context
	within.This = []api.Type{self}
	for _, m := range ofKind(n.Parts, api.DMethod) {
		k.body(within, m)
	}
}

// withParams tells the context with parameters ahead, the last one first.
func (k *check) withParams(params []api.Node, means []api.Type) tstmt.Context {
	c := k.context
	var values []tstmt.Value
	for i := len(params) - 1; i >= 0; i-- {
		values = append(values, tstmt.Value{Name: params[i].Text, Type: means[i], Const: true})
	}
	c.Values = append(values, c.Values...)
	return c
}

// base tells what is wrong with the arguments of the class that a class extends.
func (k *check) base(x *extension, inside tstmt.Context) {
	params, args := k.project.declared[x.means.Text].params, x.node.Parts[1:]
	if len(params) != len(args) {
		k.tell(x.node, wrongCount)
		return
	}
	for i, n := range args {
		k.fit(inside, n, params[i])
	}
}

func (k *check) meaning(n api.Node) api.Type {
	t, diags, _ := texpr.Of(k.context.Types, n)
	k.diags = append(k.diags, diags...)
	return t
}

func (k *check) signature(n api.Node) api.Type {
	t, diags, _ := texpr.Signature(k.context.Types, n)
	k.diags = append(k.diags, diags...)
	return t
}

func (k *check) fit(c tstmt.Context, n api.Node, t api.Type) {
	if k.mute {
		return
	}
	diags, _ := tstmt.Fit(c, n, t)
	k.diags = append(k.diags, diags...)
}

func (k *check) body(c tstmt.Context, n api.Node) {
	if k.mute {
		return
	}
	diags, _ := tstmt.Body(c, n)
	k.diags = append(k.diags, diags...)
}

// over tells what is wrong with an overload: the function that it belongs to must fit it.
func (k *check) over(n, function api.Node) {
	t := k.signature(n)
	f, _, _ := texpr.Signature(k.project.scope(k.unit, function), function)
	if t.Kind == api.KFunc && f.Kind == api.KFunc {
		k.mustFit(n, nil, f, t)
	}
}
