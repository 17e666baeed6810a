package interp

import (
	"plinth/api"
)

// value tells the value of an expression; what it tells means nothing where the run is over.
func (m *machine) value(f frame, n api.Node) value {
	if !m.step() {
		return value{}
	}
	switch n.Kind {
	case api.ENum:
		return number(n.N)
	case api.EStr:
		return text(n.Text)
	case api.ETrue, api.EFalse:
		return truth(n.Kind == api.ETrue)
	case api.ENull:
		return null()
	case api.EName:
		return m.named(f, n)
	case api.EThis:
		if f.this == nil {
			return m.stick(f, n)
		}
		return object(f.this)
	case api.EFunc:
		return made(n, f)
	case api.EObject:
		return m.object(f, n)
	case api.ECond:
		return m.chosen(f, n)
	case api.EBinary:
		return m.binary(f, n)
	case api.EAs:
		return m.value(f, n.Parts[0])
	}
	l := m.values(f, n.Parts)
	if m.why != going {
		return value{}
	}
	return m.of(f, n, l)
}

// of tells the value of an expression whose parts are all worked out.
func (m *machine) of(f frame, n api.Node, l []value) value {
	switch n.Kind {
	case api.EArray:
		return value{kind: api.KArray, thing: &thing{parts: l}}
	case api.EMember:
		return m.member(f, n, l[0])
	case api.EIndex:
		return m.index(f, n, l[0], l[1])
	case api.ECall:
		return m.call(f, n, l[0], l[1:])
	case api.ENew:
		in := &thing{fields: map[string]value{}}
		m.make(f, n, n.Text, l, in)
		return object(in)
	case api.EUnary:
		return m.unary(f, n, l[0])
	case api.ETypeof:
		return text(kindWord(l[0]))
	}
	return l[0]
}

func (m *machine) values(f frame, l []api.Node) []value {
	out := make([]value, 0, len(l))
	for _, n := range l {
		v := m.value(f, n)
		if m.why != going {
			return nil
		}
		out = append(out, v)
	}
	return out
}

func (m *machine) named(f frame, n api.Node) value {
	if near := f.find(n.Text); near != nil {
		return near.holds
	}
	s, found := m.scopes[f.file][n.Text]
	if !found {
		return m.stick(f, n)
	}
	file := m.numbers[s.File]
	if d, found := m.declaration(s, api.DFunc); found {
		return m.declared(file, d)
	}
	if _, found := m.declaration(s, api.DConst); !found {
		return m.stick(f, n)
	}
	v, done := m.consts[place{file, s.Name}]
	if !done {
		return m.throw(text("unset"))
	}
	return v
}

func (m *machine) object(f frame, n api.Node) value {
	out := &thing{fields: map[string]value{}}
	for _, p := range n.Parts {
		v := m.value(f, p.Parts[0])
		if m.why != going {
			return value{}
		}
		if _, found := out.fields[p.Text]; !found {
			out.fields[p.Text] = v
		}
	}
	return object(out)
}

func (m *machine) member(f frame, n api.Node, x value) value {
	switch {
	case x.kind == api.KObject:
		return x.thing.at(n.Text)
	case x.kind == api.KArray && n.Text == "length":
		return number(int64(len(x.thing.parts)))
	case x.kind == api.KString && n.Text == "length":
		return number(int64(len(x.text)))
	}
	return m.stick(f, n)
}

func (m *machine) index(f frame, n api.Node, x, y value) value {
	switch {
	case x.kind == api.KObject && y.kind == api.KString:
		return x.thing.at(y.text)
	case x.kind == api.KArray && y.kind == api.KNumber:
		if y.n < 0 || y.n >= int64(len(x.thing.parts)) {
			return null()
		}
		return x.thing.parts[y.n]
	}
	return m.stick(f, n)
}

func (m *machine) unary(f frame, n api.Node, x value) value {
	switch {
	case n.Text == "-" && x.kind == api.KNumber:
		return number(-x.n)
	case n.Text == "!" && isTruth(x):
		return truth(x.kind == api.KFalse)
	}
	return m.stick(f, n)
}

func (m *machine) chosen(f frame, n api.Node) value {
	yes, known := m.condition(f, n)
	if !known {
		return value{}
	}
	if yes {
		return m.value(f, n.Parts[1])
	}
	return m.value(f, n.Parts[2])
}

// condition tells whether the first part of n is true; it is stuck at n, if that is neither true nor false.
func (m *machine) condition(f frame, n api.Node) (bool, bool) {
	v := m.value(f, n.Parts[0])
	if m.why != going {
		return false, false
	}
	if !isTruth(v) {
		m.stick(f, n)
		return false, false
	}
	return v.kind == api.KTrue, true
}

func (m *machine) binary(f frame, n api.Node) value {
	if n.Text == "&&" || n.Text == "||" {
		return m.logic(f, n)
	}
	l := m.values(f, n.Parts)
	if m.why != going {
		return value{}
	}
	x, y := l[0], l[1]
	switch {
	case n.Text == "===":
		return truth(x == y)
	case n.Text == "!==":
		return truth(x != y)
	case x.kind == api.KNumber && y.kind == api.KNumber:
		return m.reckon(n.Text, x.n, y.n)
	case n.Text == "+" && x.kind == api.KString && y.kind == api.KString:
		if len(x.text)+len(y.text) > api.MaxFile {
			return m.throw(text("long"))
		}
		return text(x.text + y.text)
	}
	return m.stick(f, n)
}

// logic tells the value of && and ||: the second part is asked for only if the first one doesn't tell.
func (m *machine) logic(f frame, n api.Node) value {
	yes, known := m.condition(f, n)
	if !known || yes == (n.Text == "||") {
		return truth(yes)
	}
	v := m.value(f, n.Parts[1])
	if m.why == going && !isTruth(v) {
		return m.stick(f, n)
	}
	return v
}

func (m *machine) reckon(sign string, x, y int64) value {
	switch sign {
	case "+":
		return number(x + y)
	case "-":
		return number(x - y)
	case "*":
		return number(x * y)
	case "<":
		return truth(x < y)
	case "<=":
		return truth(x <= y)
	case ">":
		return truth(x > y)
	case ">=":
		return truth(x >= y)
	}
	if y == 0 {
		return m.throw(text("zero"))
	}
	if sign == "/" {
		return number(x / y)
	}
	return number(x % y)
}
