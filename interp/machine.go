package interp

import (
	"plinth/api"
	"plinth/bind"
)

// Why a part of a run is over.
const (
	going = iota
	returned
	thrown
	spent
	stuck
)

// machine is a run: what there is in the files, the steps that are left, the calls that are open, and why a part is over.
type machine struct {
	units     []bind.Unit
	numbers   map[string]int
	scopes    []map[string]bind.Symbol
	started   map[int]struct{}
	consts    map[place]value
	functions map[place]value
	left      int
	open      int
	why       int
	result    value
	file      string
	at        int
}

// place is where a symbol is declared.
type place struct {
	file int
	name string
}

func newMachine(reached []string, units []bind.Unit, steps int) *machine {
	m := &machine{numbers: map[string]int{}, started: map[int]struct{}{}, consts: map[place]value{}, functions: map[place]value{}, left: steps}
	byName := map[string]bind.Unit{}
	for _, u := range units {
		byName[u.Name] = u
	}
	for i, name := range reached {
		m.numbers[name] = i
		m.units = append(m.units, byName[name])
	}
	scopes, _, _ := bind.Link(m.units...)
	for _, s := range scopes {
		symbols := map[string]bind.Symbol{}
		for _, one := range s.Symbols {
			symbols[one.Name] = one
		}
		m.scopes = append(m.scopes, symbols)
	}
	return m
}

// exported finds an exported function without parameters that a file itself declares.
func (m *machine) exported(file int, name string) (api.Node, bool) {
	s, found := m.scopes[file][name]
	if !found || !s.Exported || s.File != m.units[file].Name {
		return api.Node{}, false
	}
	n, found := m.declaration(s, api.DFunc)
	return n, found && n.N == 0
}

// declaration finds a symbol's declaration of a kind.
func (m *machine) declaration(s bind.Symbol, kind int) (api.Node, bool) {
	parts := m.units[m.numbers[s.File]].Node.Parts
	for _, i := range s.Decls {
		if parts[i].Kind == kind {
			return parts[i], true
		}
	}
	return api.Node{}, false
}

// declared tells the value of a function that a file declares; it is the same each time.
func (m *machine) declared(file int, n api.Node) value {
	at := place{file, n.Text}
	if v, found := m.functions[at]; found {
		return v
	}
	v := made(n, frame{file: file})
	m.functions[at] = v
	return v
}

// made makes a function: of a DFunc, a DMethod or an EFunc.
func made(n api.Node, f frame) value {
	last := len(n.Parts) - 1
	return value{kind: api.KFunc, thing: &thing{code: &code{params: n.Parts[int64(last)-1-n.N : last-1], block: n.Parts[last], frame: f}}}
}

// constants works out the constants of a file, and ahead of them those of the files that it imports.
func (m *machine) constants(file int) {
	if _, done := m.started[file]; done {
		return
	}
	m.started[file] = struct{}{}
	parts := m.units[file].Node.Parts
	for _, d := range parts {
		from, found := m.numbers[d.Text]
		if d.Kind == api.DImport && found {
			m.constants(from)
		}
	}
	for i, d := range parts {
		if d.Kind != api.DConst || !m.taken(file, d.Text, i) {
			continue
		}
		v := m.value(frame{file: file}, d.Parts[1])
		if m.why != going {
			return
		}
		m.consts[place{file, d.Text}] = v
	}
}

// taken tells whether a symbol has the declaration number i of a file.
func (m *machine) taken(file int, name string, i int) bool {
	s, found := m.scopes[file][name]
	if !found || s.File != m.units[file].Name {
		return false
	}
	for _, decl := range s.Decls {
		if decl == i {
			return true
		}
	}
	return false
}

// step takes a step. It tells whether the run goes on.
func (m *machine) step() bool {
	if m.why != going {
		return false
	}
	if m.left == 0 {
		m.why = spent
		return false
	}
	m.left--
	return true
}

// stick ends the run at a node.
func (m *machine) stick(f frame, n api.Node) value {
	m.why, m.file, m.at = stuck, m.units[f.file].Name, n.At
	return value{}
}

func (m *machine) throw(v value) value {
	m.why, m.result = thrown, v
	return value{}
}

// enter opens a call, or spends the run.
func (m *machine) enter() bool {
	if m.open == api.MaxCalls {
		m.why = spent
		return false
	}
	m.open++
	return true
}

// call calls a function.
func (m *machine) call(f frame, n api.Node, called value, args []value) value {
	if called.kind != api.KFunc || len(called.thing.code.params) > len(args) {
		return m.stick(f, n)
	}
	if !m.enter() {
		return value{}
	}
	c := called.thing.code
	m.block(withParams(c.frame, c.params, args), c.block)
	m.open--
	if m.why == returned {
		m.why = going
		return m.result
	}
	return null()
}

func withParams(f frame, params []api.Node, args []value) frame {
	for i, p := range params {
		f = f.with(p.Text, args[i])
	}
	return f
}

// make makes the parts of a class in an object; n is the ENew or the DExtends that asks for it.
func (m *machine) make(f frame, n api.Node, class string, args []value, in *thing) {
	s, found := m.scopes[f.file][class]
	if !found {
		m.stick(f, n)
		return
	}
	d, found := m.declaration(s, api.DClass)
	if !found || d.N > int64(len(args)) {
		m.stick(f, n)
		return
	}
	if !m.enter() {
		return
	}
	m.parts(withParams(frame{file: m.numbers[s.File]}, d.Parts[:d.N], args), d, in)
	m.open--
}

func (m *machine) parts(f frame, d api.Node, in *thing) {
	for _, p := range d.Parts[d.N:] {
		switch p.Kind {
		case api.DExtends:
			args := m.values(f, p.Parts[1:])
			if m.why == going {
				m.make(f, p, p.Parts[0].Text, args, in)
			}
		case api.DHolds:
			v := m.value(f, p.Parts[1])
			in.fields[p.Text] = v
		case api.DMethod:
			in.fields[p.Text] = made(p, frame{file: f.file, this: in})
		}
		if m.why != going {
			return
		}
	}
}
