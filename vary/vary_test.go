package vary_test

import (
	"math/rand"
	"slices"
	"testing"

	"plinth/api"
	"plinth/relate"
	"plinth/testkit"
	"plinth/types"
	"plinth/vary"
)

func decl(name, t string, vars ...string) relate.Decl {
	d := relate.Decl{Name: name, Type: testkit.T(t)}
	for _, v := range vars {
		d.Vars = append(d.Vars, api.Var{Name: v})
	}
	return d
}

// P16.1
func TestOf(t *testing.T) {
	w := relate.World{Fuel: 2000, Decls: []relate.Decl{
		decl("a", "{ a: T; }", "T"), decl("b", "(T) => null", "T"), decl("c", "{ mut a: T; }", "T"), decl("d", "number", "T"), decl("e", "(T) => T", "T"), decl("f", "{ next: f<T> | null; }", "T"),
		decl("g", "((T) => null) => null", "T"), decl("h", "keyof T", "T"), decl("i", `T["a"]`, "T"), decl("pair", "{ a: (T) => U; b: V; mut c: W; }", "T", "U", "V", "W", "X"), decl("none", "null"), decl("list", "T[] | null", "T"),
		decl("tree", "{ it: T; all: tree<T>[]; }", "T"), decl("sink", "(a<T>) => sink<T> | null", "T"), decl("own", "[T, U, sub']", "T", "U"), decl("cond", "T extends number ? 1 : 2", "T"), decl("a", "null", "T"), decl("over", "((T) => null) & (() => T)", "T"),
		decl("other", "[T, T']", "T", "T'"), decl("map", "{ [K in keyof T]: 1 }", "T"), decl("free", "[T, N]", "T"),
	}, Vars: []api.Var{{Name: "N", Bound: []api.Type{testkit.T("number")}}, {Name: "sup'", Bound: []api.Type{testkit.T("null")}}}}
	for name, want := range map[string][]int{
		"a": {1}, "b": {2}, "c": {3}, "d": {0}, "e": {3}, "f": {0}, "g": {1}, "h": {3}, "i": {1}, "pair": {2, 1, 1, 3, 0}, "none": nil, "list": {1}, "tree": {1}, "sink": {2}, "own": {1, 1}, "cond": {3}, "over": {3}, "other": {1, 1}, "map": {3}, "free": {1},
	} {
		if got, e := vary.Of(w, name); !slices.Equal(got, want) || e != api.OK {
			t.Error(name, got, e, want)
		}
	}
	if len(w.Vars) != 2 || w.Vars[0].Name != "N" {
		t.Error("the world is changed")
	}
}

// P16.1, P16.2: what is refused.
func TestWrong(t *testing.T) {
	null := testkit.T("null")
	bad := api.Type{Kind: api.KUnion, Parts: []api.Type{null}}
	good := relate.World{Fuel: 100, Decls: []relate.Decl{decl("a", "{ a: T; }", "T"), decl("two", "null", "T", "U"), decl("none", "null"), decl("loop", "loop<T>", "T"), decl("grow", "grow<[T, T]>", "T")}}
	wrong := good
	wrong.Fuel = -1
	both := func(w relate.World, name string, s, u api.Type, of, along api.Errno) {
		t.Helper()
		if got, e := vary.Of(w, name); e != of || e != api.OK && len(got) != 0 {
			t.Error(name, got, e)
		}
		if got, e := vary.Along(w, name, s, u); e != along || e != api.OK && got {
			t.Error(name, got, e)
		}
	}
	both(wrong, "a", null, null, api.ErrForm, api.ErrForm)
	both(wrong, "nobody", null, null, api.ErrForm, api.ErrForm)
	both(good, "nobody", null, null, api.ErrNone, api.ErrNone)
	both(good, "nobody", bad, null, api.ErrNone, api.ErrForm)
	both(good, "a", bad, null, api.OK, api.ErrForm)
	both(good, "a", null, bad, api.OK, api.ErrForm)
	both(good, "two", null, null, api.OK, api.ErrNone)
	both(good, "none", null, null, api.OK, api.ErrNone)
	both(good, "loop", null, testkit.T("1"), api.ErrFuel, api.ErrFuel)
	grown := good
	grown.Fuel = api.MaxFuel
	both(grown, "grow", null, testkit.T("1"), api.ErrLarge, api.ErrLarge)
	zero := good
	zero.Fuel = 0
	both(zero, "a", null, null, api.ErrFuel, api.ErrFuel)
	wide := api.Type{Kind: api.KTuple, Parts: slices.Repeat([]api.Type{null}, api.MaxParts-1)}
	both(good, "a", wide, null, api.OK, api.ErrForm)
}

// P16.2
func TestAlong(t *testing.T) {
	w := relate.World{Fuel: 1000, Decls: []relate.Decl{decl("a", "{ a: T; }", "T"), decl("b", "(T) => null", "T"), decl("c", "{ mut a: T; }", "T"), decl("d", "number", "T")}}
	for _, x := range []struct {
		name, s, t string
		want       bool
	}{
		{"a", "1", "number", true}, {"a", "number", "1", false}, {"b", "1", "number", false}, {"b", "number", "1", true}, {"c", "1", "number", false}, {"c", "1", "1", true}, {"d", "null", "1", true}, {"a", "null", "null | 1", true},
	} {
		if got, e := vary.Along(w, x.name, testkit.T(x.s), testkit.T(x.t)); got != x.want || e != api.OK {
			t.Error(x, got, e)
		}
	}
}

// body makes a type of a declaration whose one variable is T.
func body(r *rand.Rand, depth int) api.Type {
	if depth == 0 {
		return testkit.T([]string{"T", "T", "null", "number", "it<T>", "1"}[r.Intn(6)])
	}
	sub := func() api.Type { return body(r, r.Intn(depth)) }
	switch r.Intn(5) {
	case 0:
		return types.Union(sub(), sub())
	case 1:
		return api.Type{Kind: api.KArray, Parts: []api.Type{sub()}}
	case 2:
		return api.Type{Kind: api.KFunc, Parts: []api.Type{sub(), sub()}}
	case 3:
		return api.Type{Kind: api.KObject, Fields: []api.Field{{Name: "a", Flags: r.Intn(4), Type: sub()}}}
	}
	return api.Type{Kind: api.KTuple, Parts: []api.Type{sub(), sub()}}
}

// P16.3
func TestMeaning(t *testing.T) {
	r := rand.New(rand.NewSource(16))
	pairs := [][2]string{{"1", "number"}, {"null", "null | 1"}, {"[1]", "number[]"}, {"never", "1"}, {"{ a: 1; b: 2; }", "{ a: number; }"}}
	for range 4000 {
		w := relate.World{Fuel: 2000, Decls: []relate.Decl{{Name: "it", Vars: []api.Var{{Name: "T"}}, Type: body(r, 3)}}}
		l, e := vary.Of(w, "it")
		if e != api.OK {
			continue
		}
		for _, p := range pairs {
			s, u := testkit.T(p[0]), testkit.T(p[1])
			if yes, e := vary.Along(w, "it", s, u); l[0] <= 1 && e == api.OK && !yes {
				t.Fatal(testkit.Text(w.Decls[0].Type), l, p)
			}
			if yes, e := vary.Along(w, "it", u, s); l[0]%2 == 0 && e == api.OK && !yes {
				t.Fatal(testkit.Text(w.Decls[0].Type), l, p)
			}
		}
	}
}
