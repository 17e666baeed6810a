package console_test

import (
	"math/rand"
	"testing"

	"plinth/api"
	"plinth/bind"
	"plinth/cond"
	"plinth/eval"
	"plinth/infer"
	"plinth/interp"
	"plinth/narrow"
	"plinth/relate"
	"plinth/show"
	"plinth/sign"
	"plinth/subst"
	"plinth/tdecl"
	"plinth/texpr"
	"plinth/tree"
	"plinth/tstmt"
	"plinth/types"
	"plinth/vary"
)

// odd makes trees and types of any shape.
type odd struct{ *rand.Rand }

func (r odd) text() string {
	return []string{"", "a", "A", "T", "K", "number", "+", "-", "!", "&&", "f", "A'", "\xff", "length"}[r.Intn(14)]
}

func (r odd) node(depth int) api.Node {
	kinds := []int{1, 2, 3, 4, 5, 6, 7, 8, 9, 10, 11, 12, 13, 14, 15, 16, 20, 21, 22, 23, 24, 25, 26, 27, 28, 29, 30, 31, 32, 33, 34, 35, 36, 37, 38, 39, 40, 50, 51, 52, 53, 54, 55, 56, 57, 58, 59, 70, 71, 72, 73, 74, 75, 76, 77, 78, 79, 80, 81, 82, 90, 0, -1, 99}
	n := api.Node{Kind: kinds[r.Intn(len(kinds))], Text: r.text(), N: int64(r.Intn(5) - 1), M: int64(r.Intn(3) - 1), At: r.Intn(9) - 1}
	if r.Intn(3) > 0 {
		n.M = 0
	}
	for depth > 0 && len(n.Parts) < 4 && r.Intn(3) > 0 {
		n.Parts = append(n.Parts, r.node(depth-1))
	}
	return n
}

func (r odd) typ(depth int) api.Type {
	t := api.Type{Kind: r.Intn(26) - 1, Text: r.text(), N: int64(r.Intn(4) - 1)}
	if r.Intn(2) == 0 {
		t.Text, t.N = "", 0
	}
	for depth > 0 && len(t.Parts) < 4 && r.Intn(3) > 0 {
		t.Parts = append(t.Parts, r.typ(depth-1))
	}
	for depth > 0 && r.Intn(4) == 0 {
		t.Fields = append(t.Fields, api.Field{Name: r.text(), Flags: r.Intn(5) - 1, Type: r.typ(depth - 1)})
	}
	for depth > 0 && r.Intn(5) == 0 {
		t.Vars = append(t.Vars, r.vars(depth-1)...)
	}
	return t
}

func (r odd) vars(depth int) []api.Var {
	v := api.Var{Name: r.text()}
	if r.Intn(2) == 0 {
		v.Bound = append(v.Bound, r.typ(depth))
	}
	return []api.Var{v}
}

func (r odd) world() relate.World {
	w := relate.World{Fuel: r.Intn(300) - 1}
	for range r.Intn(3) {
		w.Decls = append(w.Decls, relate.Decl{Name: r.text(), Type: r.typ(2)})
	}
	if r.Intn(2) == 0 {
		w.Vars = r.vars(1)
	}
	return w
}

// R1: every call ends, and none panics, at all arguments.
func TestNoPanic(t *testing.T) {
	r := odd{rand.New(rand.NewSource(1))}
	for range 60000 {
		n, m := r.node(4), r.node(3)
		tree.Type(n)
		tree.Expr(n)
		tree.Stat(n)
		tree.File(n)
		tree.Nodes(n)
		tree.Same(n, m)
		tree.Bare(n)
		tree.Names(n)
		show.Type(n)
		show.Expr(n)
		show.Stat(n)
		show.File(n)
		sign.Of(n)
		sign.Bare(n)
		x, y := r.typ(3), r.typ(2)
		types.Order(x, y)
		types.Union(x, y)
		types.Formed(x)
		types.Nodes(x)
		types.Free(x)
		types.Text(x)
		subst.Of(x, subst.Bind{Name: r.text(), Type: y})
		subst.Rename(x, r.text(), r.text())
		eval.Keys(x)
		eval.At(x, y)
		eval.Map(r.text(), x, y, r.Intn(5)-1)
		eval.Parts(x)
		cond.Gather(x, y)
		cond.Fill(x, cond.Found{Name: r.text(), Type: y})
		w := r.world()
		relate.Head(w, x)
		relate.Spread(w, x)
		relate.Fits(w, x, y)
		vary.Of(w, r.text())
		vary.Along(w, r.text(), x, y)
		infer.Infer(w, x, y)
		infer.Call(w, x, y, y)
		narrow.Kind(x)
		narrow.Behind(w, x, narrow.Test{Kind: r.Intn(5) - 1, Text: "null", Type: y}, r.Intn(2) == 0)
		s := texpr.Scope{Vars: []string{"T"}, Names: []texpr.Name{{Text: "A", Global: r.text(), Arity: r.Intn(3) - 1}}}
		texpr.Of(s, n)
		texpr.Vars(s, n, m)
		texpr.Signature(s, n)
		c := tstmt.Context{Types: s, World: w, Values: []tstmt.Value{{Name: "a", Type: x}}, Classes: []tstmt.Class{{Name: "A", Global: "A", Params: []api.Type{y}}}}
		tstmt.Expr(c, n)
		tstmt.Fit(c, n, x)
		tstmt.Block(c, n)
		tstmt.Body(c, n)
		u := bind.Unit{Name: "a", Node: api.Node{Kind: api.DFile, Parts: []api.Node{n, m}}}
		bind.Locals(u)
		bind.Link(u, bind.Unit{Name: "b", Node: n})
		bind.Reach("a", u)
		tdecl.World("a", u)
		tdecl.Check("a", u)
		interp.Run("a", "f", 100, u)
	}
}
