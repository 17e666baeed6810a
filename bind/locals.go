package bind

import (
	"maps"
	"slices"

	"plinth/api"
)

const (
	isType  = 1
	isValue = 2
)

func declares(kind int) int {
	switch kind {
	case api.DType, api.DInterface:
		return isType
	case api.DClass:
		return isType | isValue
	case api.DFunc, api.DOver, api.DConst:
		return isValue
	}
	return 0
}

// gathering has a name's symbol as it grows, and whether its type is one of interfaces alone.
type gathering struct {
	symbol Symbol
	meets  bool
}

// gatherer goes through the declarations of a unit.
type gatherer struct {
	unit  Unit
	names map[string]*gathering
	diags []api.Diag
}

// locals tells the symbols of a unit whose Node is formed.
func locals(u Unit) ([]Symbol, []api.Diag) {
	g := &gatherer{unit: u, names: map[string]*gathering{}}
	parts := u.Node.Parts
	for i := 0; i < len(parts); {
		count := 1
		if parts[i].Kind == api.DOver {
			count = overs(parts[i:])
		}
		g.group(i, count)
		i += count
	}
	var symbols []Symbol
	for _, name := range slices.Sorted(maps.Keys(g.names)) {
		symbols = append(symbols, g.names[name].symbol)
	}
	return symbols, g.diags
}

// overs tells how many declarations go together from a DOver on, the DFunc that ends them among them; 1 if none does.
func overs(parts []api.Node) int {
	name := parts[0].Text
	for i, p := range parts {
		if p.Text != name {
			return 1
		}
		switch p.Kind {
		case api.DOver:
		case api.DFunc:
			return i + 1
		default:
			return 1
		}
	}
	return 1
}

// group takes declarations that go together, the last one telling what they are.
func (g *gatherer) group(first, count int) {
	last := g.unit.Node.Parts[first+count-1]
	kinds := declares(last.Kind)
	if kinds == 0 {
		return
	}
	if last.Kind == api.DOver {
		g.tell(first, noFunction)
		return
	}
	if g.clashes(last) {
		for i := first; i < first+count-1; i++ {
			g.tell(i, noFunction)
		}
		g.tell(first+count-1, twice)
		return
	}
	for i := first; i < first+count; i++ {
		g.add(i)
	}
}

func (g *gatherer) tell(i, code int) {
	d := g.unit.Node.Parts[i]
	g.diags = append(g.diags, api.Diag{File: g.unit.Name, At: d.At, Code: code, Text: d.Text})
}

// clashes tells whether a declaration declares what one ahead of it does, without going together with it.
func (g *gatherer) clashes(d api.Node) bool {
	have := g.names[d.Text]
	if have == nil || have.symbol.Kinds&declares(d.Kind) == 0 {
		return false
	}
	return d.Kind != api.DInterface || !have.meets
}

func (g *gatherer) add(i int) {
	d := g.unit.Node.Parts[i]
	have := g.names[d.Text]
	if have == nil {
		have = &gathering{symbol: Symbol{Name: d.Text, File: g.unit.Name}}
		g.names[d.Text] = have
	}
	have.symbol.Kinds |= declares(d.Kind)
	have.symbol.Decls = append(have.symbol.Decls, i)
	have.symbol.Exported = have.symbol.Exported || d.M == 1
	have.meets = have.meets || d.Kind == api.DInterface
}
