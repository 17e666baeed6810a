package tdecl

import (
	"slices"
	"strings"

	"plinth/api"
	"plinth/subst"
	"plinth/texpr"
)

// The codes of the Diags.
const (
	twice       = 9
	unlikeVars  = 13
	notExtended = 14
	ofItself    = 15
	wrongCount  = 21
	misfit      = 24
	limit       = 27
)

// declared is a declared type: its declarations, and what they mean together. Of a class params has what its parameters mean.
type declared struct {
	unit   int
	global string
	decls  []*declaration
	vars   []api.Var
	params []api.Type
	means  api.Type
	done   bool
}

// declaration is one declaration of a type: its variables, what it extends, what is wrong in what it declares.
type declaration struct {
	node    api.Node
	leftOut bool
	vars    []api.Var
	extends []*extension
	diags   []api.Diag
}

// extension is a DExtends, and what it means: whether it names nothing that can be extended, and whether it makes a loop.
type extension struct {
	node  api.Node
	means api.Type
	wrong bool
	loops bool
}

// holds tells whether there is no Diag about it.
func (x *extension) holds() bool {
	return !x.wrong && !x.loops
}

func (d *declaration) tell(n api.Node, code int, text string) {
	d.diags = append(d.diags, api.Diag{At: n.At, Code: code, Text: text})
}

// varsOf tells the type variables of a declaration as they are written.
func (d *declared) varsOf(i int) []api.Node {
	n := d.decls[i].node
	if n.Kind == api.DClass {
		return nil
	}
	return n.Parts[:n.N]
}

func (d *declared) kind() int {
	return d.decls[0].node.Kind
}

// self tells the type with variables as its arguments.
func (d *declared) self(vars []api.Var) api.Type {
	t := api.Type{Kind: api.KRef, Text: d.global}
	for _, v := range vars {
		t.Parts = append(t.Parts, api.Type{Kind: api.KVar, Text: v.Name})
	}
	return t
}

func texts(l []api.Node) []string {
	var out []string
	for _, n := range l {
		out = append(out, n.Text)
	}
	return out
}

// ofKind tells those of the parts that are of a kind.
func ofKind(l []api.Node, kind int) []api.Node {
	var out []api.Node
	for _, n := range l {
		if n.Kind == kind {
			out = append(out, n)
		}
	}
	return out
}

// inside tells the scope of types of a declared type, as far as a node in it speaks of it, with its variables ahead.
func (p *project) inside(d *declared, n api.Node) texpr.Scope {
	s := p.scope(d.unit, n)
	s.Vars = texts(d.varsOf(0))
	return s
}

// begin works out the variables of a declared type, and what its DExtends name.
func (p *project) begin(d *declared) {
	names := texts(d.varsOf(0))
	for i, one := range d.decls {
		if !slices.Equal(texts(d.varsOf(i)), names) {
			one.leftOut = true
			one.tell(one.node, unlikeVars, one.node.Text)
			continue
		}
		vars, diags, _ := texpr.Vars(p.scope(d.unit, d.varsOf(i)...), d.varsOf(i)...)
		one.vars = vars
		one.diags = append(one.diags, diags...)
		for _, n := range ofKind(one.node.Parts, api.DExtends) {
			one.extends = append(one.extends, p.extension(d, one, n))
		}
	}
	d.vars = d.decls[0].vars
}

func (p *project) extension(d *declared, one *declaration, n api.Node) *extension {
	t, diags, _ := texpr.Of(p.inside(d, n), n.Parts[0])
	one.diags = append(one.diags, diags...)
	x := &extension{node: n, means: t, wrong: len(diags) > 0}
	if !x.wrong && !p.extendable(d, t) {
		x.wrong = true
		one.tell(n, notExtended, "")
	}
	return x
}

// extendable tells whether what a DExtends means can be extended.
func (p *project) extendable(d *declared, t api.Type) bool {
	base := p.declared[t.Text]
	if t.Kind != api.KRef || base == nil {
		return false
	}
	return base.kind() == api.DClass || base.kind() == api.DInterface && d.kind() == api.DInterface
}

// bases tells what the DExtends of a declared type name, those that make a loop too.
func (d *declared) bases() []string {
	var out []string
	for _, one := range d.decls {
		for _, x := range one.extends {
			if !x.wrong {
				out = append(out, x.means.Text)
			}
		}
	}
	return out
}

// findLoops tells which DExtends name what is, or hangs on, the type that they stand in.
func (p *project) findLoops(d *declared) {
	for _, one := range d.decls {
		for _, x := range one.extends {
			if !x.wrong && p.hangs(x.means.Text, d.global) {
				one.tell(x.node, ofItself, "")
				x.loops = true
			}
		}
	}
}

// hangs tells whether a declared type is, or hangs on, another.
func (p *project) hangs(from, on string) bool {
	seen := map[string]struct{}{from: {}}
	for work := []string{from}; len(work) > 0; {
		last := work[len(work)-1]
		work = work[:len(work)-1]
		if last == on {
			return true
		}
		for _, name := range p.declared[last].bases() {
			if _, found := seen[name]; !found {
				seen[name] = struct{}{}
				work = append(work, name)
			}
		}
	}
	return false
}

// finish works out what a declared type means.
func (p *project) finish(d *declared) {
	if d.done {
		return
	}
	d.done = true
	switch d.kind() {
	case api.DType:
		one := d.decls[0]
		n := one.node.Parts[one.node.N]
		t, diags, _ := texpr.Of(p.inside(d, n), n)
		one.diags = append(one.diags, diags...)
		d.means = t
		return
	case api.DClass:
		p.parameters(d)
	}
	f := &fields{seen: map[string]struct{}{}}
	for _, one := range d.decls {
		if !one.leftOut {
			p.own(d, one, f)
		}
	}
	for _, one := range d.decls {
		for _, x := range one.extends {
			if x.holds() {
				f.addAll(p.inherited(x))
			}
		}
	}
	slices.SortFunc(f.list, func(a, b api.Field) int { return strings.Compare(a.Name, b.Name) })
	d.means = api.Type{Kind: api.KObject, Fields: f.list}
}

// parameters works out what the parameters of a class mean.
func (p *project) parameters(d *declared) {
	one := d.decls[0]
	for _, n := range one.node.Parts[:one.node.N] {
		t, diags, _ := texpr.Of(p.scope(d.unit, n), n.Parts[0])
		one.diags = append(one.diags, diags...)
		d.params = append(d.params, t)
	}
}

// fields gathers fields, of each name the first one.
type fields struct {
	list []api.Field
	seen map[string]struct{}
}

// add tells whether the field is the first of its name.
func (f *fields) add(one api.Field) bool {
	if _, found := f.seen[one.Name]; found {
		return false
	}
	f.seen[one.Name] = struct{}{}
	f.list = append(f.list, one)
	return true
}

func (f *fields) addAll(l []api.Field) {
	for _, one := range l {
		f.add(one)
	}
}

// own gathers the fields that stand in a declaration itself.
func (p *project) own(d *declared, one *declaration, f *fields) {
	for _, n := range one.node.Parts {
		field := api.Field{Name: n.Text}
		var diags []api.Diag
		switch n.Kind {
		case api.YField:
			field.Flags = int(n.N)
			field.Type, diags, _ = texpr.Of(p.inside(d, n), n.Parts[0])
		case api.DHolds:
			field.Flags = 2 * int(n.N)
			field.Type, diags, _ = texpr.Of(p.scope(d.unit, n), n.Parts[0])
		case api.DMethod:
			field.Type, diags, _ = texpr.Signature(p.scope(d.unit, n), n)
		default:
			continue
		}
		one.diags = append(one.diags, diags...)
		if !f.add(field) {
			one.tell(n, twice, n.Text)
		}
	}
}

// inherited tells the fields of what a DExtends names.
func (p *project) inherited(x *extension) []api.Field {
	base := p.declared[x.means.Text]
	p.finish(base)
	var binds []subst.Bind
	for i, v := range base.vars {
		binds = append(binds, subst.Bind{Name: v.Name, Type: x.means.Parts[i]})
	}
	t, e := subst.Of(base.means, binds...)
	if e != api.OK {
		return nil
	}
	return t.Fields
}
