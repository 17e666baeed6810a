package interp

import "plinth/api"

// block does the statements of a block; its names end with it.
func (m *machine) block(f frame, n api.Node) {
	for _, s := range n.Parts {
		if !m.step() {
			return
		}
		f = m.stat(f, s)
		if m.why != going {
			return
		}
	}
}

// stat does a statement, and tells the frame behind it.
func (m *machine) stat(f frame, n api.Node) frame {
	switch n.Kind {
	case api.SConst, api.SLet:
		return f.with(n.Text, m.value(f, n.Parts[len(n.Parts)-1]))
	case api.SAssign:
		m.assign(f, n)
	case api.SExpr:
		m.value(f, n.Parts[0])
	case api.SThrow:
		v := m.value(f, n.Parts[0])
		if m.why == going {
			m.throw(v)
		}
	case api.SReturn:
		m.back(f, n)
	case api.SIf:
		m.branches(f, n)
	case api.SWhile:
		for yes, known := m.condition(f, n); known && yes; yes, known = m.condition(f, n) {
			m.block(f, n.Parts[1])
			if m.why != going {
				break
			}
		}
	case api.STry:
		m.block(f, n.Parts[0])
		if m.why == thrown {
			m.why = going
			m.block(f.with(n.Text, m.result), n.Parts[1])
		}
	case api.SBlock:
		m.block(f, n)
	}
	return f
}

func (m *machine) back(f frame, n api.Node) {
	v := null()
	if n.N == 1 {
		v = m.value(f, n.Parts[0])
	}
	if m.why == going {
		m.why, m.result = returned, v
	}
}

func (m *machine) branches(f frame, n api.Node) {
	yes, known := m.condition(f, n)
	switch {
	case !known:
	case yes:
		m.block(f, n.Parts[1])
	case n.N == 1:
		m.block(f, n.Parts[2])
	}
}

func (m *machine) assign(f frame, n api.Node) {
	target := n.Parts[0]
	if target.Kind == api.EName {
		v := m.value(f, n.Parts[1])
		if m.why != going {
			return
		}
		near := f.find(target.Text)
		if near == nil {
			m.stick(f, target)
			return
		}
		near.holds = v
		return
	}
	l := m.values(f, []api.Node{target.Parts[0], n.Parts[1]})
	if m.why != going {
		return
	}
	if l[0].kind != api.KObject {
		m.stick(f, target)
		return
	}
	l[0].thing.fields[target.Text] = l[1]
}
