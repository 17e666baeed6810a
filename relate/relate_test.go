package relate_test

import (
	"math/rand"
	"slices"
	"strings"
	"testing"

	"plinth/api"
	"plinth/relate"
	"plinth/testkit"
	"plinth/types"
)

// world reads "Box<T> = { a: T; }; L = ..": declarations, a line each; and variables with bounds, as "T extends number".
func world(fuel int, lines ...string) relate.World {
	w := relate.World{Fuel: fuel}
	for _, line := range lines {
		if name, bound, is := strings.Cut(line, " extends "); is && !strings.Contains(name, "=") {
			w.Vars = append(w.Vars, api.Var{Name: name, Bound: []api.Type{testkit.T(bound)}})
			continue
		}
		head, t, _ := strings.Cut(line, " = ")
		name, rest, vars := strings.Cut(head, "<")
		d := relate.Decl{Name: name, Type: testkit.T(t)}
		if vars {
			d.Vars = testkit.T("<" + rest + "() => null").Vars
		}
		w.Decls = append(w.Decls, d)
	}
	return w
}

var lib = []string{
	"Box<T> = { a: T; }", "Cell<T> = { mut a: T; }", "List = { next: List | null; }", "More = { next: More | null; }", "Long = { next: Long | null; b: null; }", "Loop = Loop", "Own = number | Own",
	"El<T> = T = T extends (infer V)[] ? V : never", "All<T> = T extends (infer V)[] ? V : never", "Part<T> = { [K in keyof T]?: T[K] }", "Two<A, B> = [A, B]", "Grow<T> = Grow<[T, T]>", "Deep<T> = { a: Deep<T[]>; }",
	"T extends { a: number; b: string; }", "U extends T", "N extends number", "Twice<T> = T", "Twice<T> = null", "N extends string", "Fall<T> = T = T extends string ? Fall<1> : T", "Tail<T> = { rest: Tail<T>[]; it: T; }",
}

func head(t *testing.T, w relate.World, s, want string, steps int) {
	t.Helper()
	got, n, e := relate.Head(w, testkit.T(s))
	if e != api.OK || types.Order(got, testkit.T(want)) != 0 || n != steps && steps > 0 {
		t.Errorf("head of %s: %s, %d steps, %d; not %s, %d steps", s, testkit.Text(got), n, e, want, steps)
	}
}

// P15.1
func TestHead(t *testing.T) {
	w := world(1000, lib...)
	for _, x := range []struct {
		s, want string
		steps   int
	}{
		{"null", "null", 1}, {"A", "A", 1}, {"T", "T", 1}, {"null | Box<1>", "null | Box<1>", 1}, {"infer V", "infer V", 1}, {"(() => 1) & (() => 2)", "(() => 1) & (() => 2)", 1}, {"[Box<1>]", "[Box<1>]", 1},
		{"Box<number>", "{ a: number; }", 2}, {"Box<>", "unknown", 1}, {"Box<1, 2>", "unknown", 1}, {"nobody", "unknown", 1}, {"Two<1, 2>", "[1, 2]", 2}, {"Two<B, A>", "[B, A]", 2}, {"Twice<1>", "1", 2}, {"Twice<Twice<1>>", "1", 3},
		{"keyof { a: 1; b: 2; }", `"a" | "b"`, 2}, {"keyof Box<1>", `"a"`, 3}, {"keyof A", "keyof A", 2}, {"keyof any", "string", 2}, {"keyof (null | A)", "keyof (null | A)", 4}, {"keyof (Box<1> | Cell<2>)", `"a"`, 6}, {"keyof (keyof A)", "keyof (keyof A)", 3},
		{"keyof (Box<1>[])", "never", 2}, {"keyof Twice<A>", "keyof A", 3}, {"keyof (infer V)", "keyof (infer V)", 2},
		{`{ a: 1; }["a"]`, "1", 4}, {`Box<Twice<1>>["a"]`, "1", 6}, {`A["a"]`, `A["a"]`, 3}, {`Box<1>[K]`, `{ a: 1; }[K]`, 4}, {`Box<1>[keyof Box<2>]`, "1", 7}, {"number[][number]", "null | number", 4}, {`{ a: 1; }["b"]`, "unknown", 4}, {"Twice<A>[Twice<K>]", "A[K]", 5},
		{`{ a: Box<1>; }["a"]`, "{ a: 1; }", 5}, {`{ a?: Box<1>; }["a"]`, "null | Box<1>", 4},
		{`{ [K in "a" | "b"]: [K] }`, `{ a: ["a"]; b: ["b"]; }`, 4}, {"Part<Box<1>>", `{ a?: Box<1>["a"]; }`, 5}, {"Part<A>", "{ [K in keyof A]?: A[K] }", 4}, {"{ mut [K in never]: K }", "{ }", 2}, {"{ [K in Twice<A>]: K }", "{ [K in A]: K }", 3},
		{`5 extends number ? "n" : "o"`, `"n"`, 6}, {`D = (5 | null) extends number ? "n" : "o"`, `"n" | "o"`, 0}, {`(5 | null) extends number ? "n" : "o"`, `"o"`, 0}, {`D = never extends number ? "n" : "o"`, "never", 2}, {`never extends number ? "n" : "o"`, `"n"`, 0},
		{"El<number[] | string[]>", "number | string", 0}, {"All<number[] | string[]>", "number | string", 0}, {"El<number>", "never", 0}, {"El<1[] | null>", "1", 0}, {"All<1[] | null>", "never", 0}, {"El<[1, 2] | 3>", "1 | 2", 0},
		{"A extends number ? 1 : 2", "A extends number ? 1 : 2", 2}, {"Twice<A> extends number ? Twice<1> : 2", "A extends number ? Twice<1> : 2", 3}, {"1 extends A ? 1 : 2", "1 extends A ? 1 : 2", 2}, {"D = 1 extends D ? [D] : 2", "[1]", 0}, {"D = (1 | 2) extends [D] ? 0 : [D]", "[1] | [2]", 0},
		{"D = (1 | 2) extends E ? 0 : D", "D = (1 | 2) extends E ? 0 : D", 4}, {"D = [1] extends [infer D] ? D : 2", "1", 0}, {"D = (1 | null) extends number ? [D] : { a: D; }", "[1] | { a: null; }", 0}, {"1 extends D ? D : D", "1 extends D ? D : D", 2},
		{"[1, 2] extends [infer A, infer B] ? [B, A] : 0", "[2, 1]", 0}, {"((1) => 2) extends ((infer A) => infer R) ? [A, R] : 0", "[1, 2]", 0}, {"Box<1> extends { a: infer V; } ? V : 0", "1", 0}, {"{ b: 1; } extends { a: infer V; } ? V : 0", "0", 0},
		{"[1] extends [infer V, infer W] ? V : 0", "0", 0}, {"1 extends infer V ? Twice<V> : 0", "1", 0}, {"any extends number ? 1 : 2", "2", 0}, {"any extends unknown ? 1 : 2", "1", 0}, {"unknown extends number ? 1 : 2", "2", 0}, {"1 extends any ? 1 : 2", "1", 0},
		{"1 extends number ? (2 extends number ? 3 : 4) : 5", "3", 0}, {"1 extends number ? Box<1> : 0", "{ a: 1; }", 0}, {"D = (1 | 2) extends 1 ? Box<D> : never", "{ a: 1; }", 0}, {"Fall<\"a\">", "1", 0}, {"infer V extends number ? 1 : 2", "2", 0},
	} {
		head(t, w, x.s, x.want, x.steps)
	}
}

// P15.1
func TestSpread(t *testing.T) {
	w := world(1000, lib...)
	for _, x := range []struct {
		s, want string
		steps   int
	}{
		{"null", "null", 1}, {"null | 1", "null | 1", 3}, {"Box<1> | null", "null | { a: 1; }", 4}, {"Twice<null | Twice<1 | Box<2>>>", "null | 1 | { a: 2; }", 0}, {"Twice<1> | Twice<2> | number", "number", 6}, {"Twice<any> | null", "any", 0},
		{"Twice<never> | null", "null", 4}, {"[Box<1>]", "[Box<1>]", 1}, {"A | null", "null | A", 3}, {"keyof Box<1> | null", `null | "a"`, 0}, {"Box<1> | Twice<Box<1>>", "{ a: 1; }", 0},
	} {
		got, n, e := relate.Spread(w, testkit.T(x.s))
		if e != api.OK || types.Order(got, testkit.T(x.want)) != 0 || n != x.steps && x.steps > 0 {
			t.Errorf("spread of %s: %s, %d steps, %d; not %s, %d steps", x.s, testkit.Text(got), n, e, x.want, x.steps)
		}
	}
}

// P15.1, P15.4
func TestFits(t *testing.T) {
	w := world(1000, lib...)
	yes := [][2]string{
		{"null", "null"}, {"A", "A"}, {"1", "any"}, {"1", "unknown"}, {"any", "unknown"}, {"never", "null"}, {"never", "A"}, {"any", "any"}, {"infer V", "infer V"}, {"5", "number"}, {`"a"`, "string"}, {"true", "boolean"}, {"boolean", "boolean | null"},
		{"Box<5>", "Box<number>"}, {"List", "More"}, {"More", "List"}, {"Long", "List"}, {"List", "List"}, {"{ a: number; b: null; }", "{ a: number; }"}, {"{ mut a: 5; }", "{ a: number; }"}, {"(unknown) => 5", "(string, null) => number"},
		{"number[]", "unknown[]"}, {"[1, 2]", "number[]"}, {"[]", "null[]"}, {"[1, null]", "[number, null | 1]"}, {"{ }", "{ }"}, {"{ a: 1; }", "{ a?: number; }"}, {"{ a?: 1; }", "{ a?: number; }"}, {"{ mut a: number; }", "{ mut a: number; }"}, {"{ mut a?: 1; }", "{ a?: 1; }"},
		{"{ mut a: 1 | 2; }", "{ mut a: 2 | 1; }"}, {"() => 1", "(1) => number"}, {"(number) => null", "(1) => null"}, {"((1) => null) => null", "((number) => null) => null"}, {"1 | 2", "number"}, {"1 | null", "null | number"}, {"Twice<1>", "1"}, {"1", "Twice<number>"},
		{"Twice<never>", "1"}, {"1", "Twice<any>"}, {"N", "number"}, {"U", "{ a: number; }"}, {"U", "T"}, {`T["a"]`, "number"}, {`U["b"]`, "string"}, {"A", "unknown"}, {"keyof A", "string"}, {"keyof A", "string | null"}, {"A | 1", "A | number"},
		{"(() => 1) & (() => 2)", "() => 1"}, {"(() => 1) & (() => 2)", "() => 2"}, {"() => 1", "(() => number) & ((null) => unknown)"}, {"((null) => 1) & (() => 2)", "((null) => 1) & ((1) => number)"}, {"El<1[]>", "number"}, {"Part<Box<1>>", "{ a?: number; }"}, {"{ a: 1; }", "{ a: 1 | 2; }"},
		{"{ a: 1 | 2; }", "{ a: 1; } | { a: 1 | 2; }"}, {"{ a: Box<1>; }", "{ a: Box<number>; }"}, {"Tail<1>", "Tail<number>"}, {"List", "{ next: { next: unknown; } | null; }"}, {"1 | 2 | null", "null | 2 | 1"}, {`keyof Box<1>`, `"a"`}, {"any", "Twice<any>"}, {"any | infer V", "unknown"}, {"unknown", "any | infer V"}, {"null", "nobody"},
		{"Box<A>", "Box<A | null>"}, {"A extends 1 ? 2 : 3", "A extends 1 ? 2 : 3"}, {"(A) => A", "(A) => A | null"}, {"<A>(A) => A", "<A>(A) => A"}, {"Box<never>", "Box<null>"},
	}
	no := [][2]string{
		{"any", "null"}, {"any", "never"}, {"unknown", "null"}, {"number", "5"}, {"1", "2"}, {"null", "never"}, {"1", "string"}, {`"a"`, "number"}, {"null", "{ }"}, {"boolean", "true"}, {"true", "false"},
		{"{ }", "{ a?: number; }"}, {"{ a: number; }", "{ a: 1; }"}, {"{ mut a: 5; }", "{ mut a: number; }"}, {"{ a: number; }", "{ mut a: number; }"}, {"{ a?: number; }", "{ a: number; }"}, {"{ a: 1; }", "{ a: 1; b: 1; }"}, {"{ mut a: number; }", "{ mut a: 5; }"},
		{"(string, null) => 1", "(string) => 1"}, {"(1) => null", "(number) => null"}, {"() => number", "() => 1"}, {"<A>(A) => A", "(1) => 1"}, {"(1) => 1", "<A>(A) => A"}, {"<A>(A) => A", "<B>(B) => B"}, {"null[]", "[null]"}, {"[1]", "[1, 2]"}, {"[1, 2]", "[1]"}, {"[number]", "1[]"}, {"[1, null]", "number[]"},
		{"<A>() => 1", "() => 1"}, {"() => 1", "<A>() => 1"}, {"<A>() => 1", "<B>() => 1"}, {"{ k: List; z: [List]; }", "{ k: Long; } | { z: [Long]; }"}, {"number[]", "number"}, {"number", "number[]"}, {"{ }", "[]"}, {"1 | null", "number"}, {"null | number", "1 | null"}, {"List", "Long"}, {"Box<number>", "Box<5>"}, {"Cell<5>", "Cell<number>"}, {"Box<1>", "Cell<1>"}, {"A", "null"}, {"1", "A"}, {"number", "N"}, {"T", "U"}, {"N", "string"},
		{"A", "B"}, {`A["a"]`, "unknown[]"}, {`T["a"]`, "string"}, {`A["a"]`, "number"}, {"string", "keyof A"}, {"keyof A", `"a"`}, {`"a"`, "keyof A"}, {"1", "infer V"}, {"infer V", "1"}, {"A | 1", "A"}, {"1", "A | null"}, {"() => 1", "(() => 1) & (() => 2)"}, {"(() => 1) & (() => 2)", "() => 3"},
		{"(() => 1) & (() => 2)", "{ }"}, {"A extends 1 ? 2 : 3", "2"}, {"{ [K in A]: 1 }", "{ }"}, {"Two<1, 2>", "Two<2, 1>"}, {"{ a: 1; } | null", "{ a: 1; }"}, {"nobody", "null"}, {"List", "{ next: null; }"}, {"Tail<number>", "Tail<1>"}, {"Box<any>", "Box<1>"},
	}
	for _, x := range yes {
		if got, n, e := relate.Fits(w, testkit.T(x[0]), testkit.T(x[1])); !got || n < 1 || e != api.OK {
			t.Errorf("%s fits %s: %t %d %d", x[0], x[1], got, n, e)
		}
	}
	for _, x := range no {
		if got, n, e := relate.Fits(w, testkit.T(x[0]), testkit.T(x[1])); got || n < 1 || e != api.OK {
			t.Errorf("%s doesn't fit %s: %t %d %d", x[0], x[1], got, n, e)
		}
	}
}

// P15.1: in how many steps.
func TestSteps(t *testing.T) {
	w := world(1000, lib...)
	for _, x := range []struct {
		s, t  string
		steps int
	}{
		{"null", "null", 1}, {"1", "any", 1}, {"never", "1", 1}, {"5", "number", 3}, {"Twice<1>", "1", 4}, {"List", "More", 21}, {"1 | 2", "number", 9}, {"1", "null | number", 9},
		{"[1, 2]", "number[]", 9}, {"[1, 2]", "[null, 2]", 6}, {"{ a: 1; b: 1; }", "{ a: null; b: number; }", 6}, {"{ mut a: number; }", "{ mut a: number; }", 1}, {"{ mut a: number; b: 1; }", "{ mut a: number; }", 5}, {"{ a: 1; b: 1; }", "{ mut a: 1; }", 4},
		{"N", "number", 4}, {"A", "null", 6}, {`T["a"]`, "number", 0}, {"keyof A", "string", 5}, {"{ a?: 1; }", "{ a: 1; }", 3}, {"(null) => 1", "() => 1", 3}, {"(1, 1) => null", "(2, 2) => null", 6}, {"() => 1", "(() => number) & (() => 1)", 10},
	} {
		if _, n, e := relate.Fits(w, testkit.T(x.s), testkit.T(x.t)); n != x.steps && x.steps > 0 || e != api.OK {
			t.Errorf("%s fits %s: %d steps, not %d; %d", x.s, x.t, n, x.steps, e)
		}
	}
}

// P15.1: names that stand in their own unions, and types that grow.
func TestEndless(t *testing.T) {
	w := world(2000, lib...)
	w.Decls = append(w.Decls, world(0, "Odd = { b: null; } | Odd", "Same = [Same] | [Same]").Decls...)
	for _, s := range []string{"Loop", "Grow<1>"} {
		want, steps := api.ErrFuel, 2000
		if s == "Grow<1>" {
			want, steps = api.ErrLarge, 0
		}
		if got, n, e := relate.Head(w, testkit.T(s)); got.Kind != 0 || n != steps || e != want {
			t.Error(s, got, n, e)
		}
		if got, n, e := relate.Spread(w, testkit.T(s)); got.Kind != 0 || n != steps || e != want {
			t.Error(s, got, n, e)
		}
		if got, n, e := relate.Fits(w, testkit.T(s), testkit.T("1")); got || n != steps || e != want {
			t.Error(s, got, n, e)
		}
	}
	if got, n, e := relate.Spread(w, testkit.T("Own")); got.Kind != 0 || n != 2000 || e != api.ErrFuel {
		t.Error(got, n, e)
	}
	for _, x := range [][2]string{{"{ a: 1; }", "Own"}, {"{ a: number; }", "Odd"}} {
		if got, n, e := relate.Fits(w, testkit.T(x[0]), testkit.T(x[1])); got || n != 2000 || e != api.ErrFuel {
			t.Error(x, got, n, e)
		}
	}
	if got, n, e := relate.Fits(w, testkit.T("Own"), testkit.T("string")); got || n == 0 || e != api.OK {
		t.Error("the first no ends it", got, n, e)
	}
	if got, n, e := relate.Fits(w, testkit.T("Deep<1>"), testkit.T("Deep<2>")); got || n != 2000 || e != api.ErrFuel {
		t.Error(got, n, e)
	}
}

// P15.2
func TestFuel(t *testing.T) {
	w := world(1000, lib...)
	for _, x := range [][2]string{{"List", "More"}, {"El<number[] | string[]>", "number | string"}, {"Part<Box<1>>", "{ a?: number; }"}, {"A", "null"}, {"Tail<1>", "Tail<number>"}} {
		s, u := testkit.T(x[0]), testkit.T(x[1])
		want, steps, _ := relate.Fits(w, s, u)
		headWant, headSteps, _ := relate.Head(w, s)
		for fuel := range steps + 5 {
			w.Fuel = fuel
			got, n, e := relate.Fits(w, s, u)
			if fuel < steps && (got || n != fuel || e != api.ErrFuel) || fuel >= steps && (got != want || n != steps || e != api.OK) {
				t.Error(x, fuel, got, n, e)
			}
			h, n, e := relate.Head(w, s)
			if fuel < headSteps && (h.Kind != 0 || n != fuel || e != api.ErrFuel) || fuel >= headSteps && (types.Order(h, headWant) != 0 || n != headSteps || e != api.OK) {
				t.Error(x, fuel, h, n, e)
			}
		}
		w.Fuel = 1000
	}
}

// P15.1: what is refused.
func TestForm(t *testing.T) {
	null := testkit.T("null")
	bad := api.Type{Kind: api.KUnion, Parts: []api.Type{null}}
	good := relate.World{Fuel: api.MaxFuel}
	refused := func(w relate.World, s, u api.Type) {
		t.Helper()
		if got, n, e := relate.Fits(w, s, u); got || n != 0 || e != api.ErrForm {
			t.Error(w, got, n, e)
		}
		if types.Formed(s) != types.Formed(u) {
			return
		}
		if got, n, e := relate.Head(w, s); got.Kind != 0 || n != 0 || e != api.ErrForm {
			t.Error(w, got, n, e)
		}
		if got, n, e := relate.Spread(w, s); got.Kind != 0 || n != 0 || e != api.ErrForm {
			t.Error(w, got, n, e)
		}
	}
	refused(good, bad, bad)
	refused(good, bad, null)
	refused(good, null, bad)
	v := func(name string, l ...api.Type) []api.Var { return []api.Var{{Name: name, Bound: l}} }
	for _, w := range []relate.World{
		{Fuel: -1}, {Fuel: api.MaxFuel + 1}, {Decls: []relate.Decl{{Name: "", Type: null}}}, {Decls: []relate.Decl{{Name: "any", Type: null}}}, {Decls: []relate.Decl{{Name: "a"}}}, {Decls: []relate.Decl{{Name: "a", Type: bad}}},
		{Decls: []relate.Decl{{Name: "a", Type: null, Vars: v("")}}}, {Decls: []relate.Decl{{Name: "a", Type: null, Vars: v("A", bad)}}}, {Decls: []relate.Decl{{Name: "a", Type: null, Vars: v("A", null, null)}}},
		{Decls: []relate.Decl{{Name: "a", Type: null, Vars: append(v("A"), v("A")...)}}}, {Vars: v("")}, {Vars: v("A", bad)}, {Vars: v("A", null, null)}, {Decls: []relate.Decl{{Name: "a", Type: null}, {Name: "a", Type: bad}}},
	} {
		refused(w, null, null)
	}
	good.Vars = append(v("A"), v("A", null)...)
	if _, n, e := relate.Fits(good, testkit.T("A"), null); n != 6 || e != api.OK {
		t.Error("of two variables of one name the first counts", n, e)
	}
	good.Fuel = 0
	if got, n, e := relate.Head(good, null); got.Kind != 0 || n != 0 || e != api.ErrFuel {
		t.Error(got, n, e)
	}
}

// P15.1: ErrLarge of the layers below.
func TestLarge(t *testing.T) {
	wide := api.Type{Kind: api.KTuple, Parts: slices.Repeat([]api.Type{{Kind: api.KNull}}, 3000)}
	w := world(1000, "Pair<T> = [T, T]")
	r := api.Type{Kind: api.KRef, Text: "Pair", Parts: []api.Type{wide}}
	if got, n, e := relate.Head(w, r); got.Kind != 0 || n != 0 || e != api.ErrLarge {
		t.Error(n, e)
	}
	if got, n, e := relate.Fits(w, r, wide); got || n != 0 || e != api.ErrLarge {
		t.Error(n, e)
	}
	if got, n, e := relate.Fits(w, r, r); !got || n != 1 || e != api.OK {
		t.Error(n, e)
	}
}

// plain makes a type without names and variables.
func plain(r *rand.Rand, depth int) api.Type {
	if depth == 0 {
		return testkit.T([]string{"null", "true", "false", "number", "string", "1", "2", `"a"`, "any", "unknown", "never"}[r.Intn(11)])
	}
	sub := func() api.Type { return plain(r, r.Intn(depth)) }
	switch r.Intn(6) {
	case 0:
		return types.Union(sub(), sub())
	case 1:
		return api.Type{Kind: api.KArray, Parts: []api.Type{sub()}}
	case 2:
		return api.Type{Kind: api.KTuple, Parts: []api.Type{sub(), sub()}[:r.Intn(3)]}
	case 3:
		return api.Type{Kind: api.KFunc, Parts: []api.Type{sub(), sub()}[:1+r.Intn(2)]}
	}
	o := api.Type{Kind: api.KObject}
	for _, name := range []string{"a", "b"} {
		if r.Intn(3) > 0 {
			o.Fields = append(o.Fields, api.Field{Name: name, Flags: r.Intn(4), Type: sub()})
		}
	}
	return o
}

// P15.3
func TestOrder(t *testing.T) {
	r := rand.New(rand.NewSource(15))
	w := relate.World{Fuel: api.MaxFuel}
	for range 3000 {
		var l []api.Type
		for range 7 {
			l = append(l, plain(r, 2))
		}
		l = append(l, types.Union(l[0], l[1]), types.Union(l[0], l[1], l[2]))
		fits := map[[2]int]int{}
		for i, a := range l {
			for j, b := range l {
				if yes, _, _ := relate.Fits(w, a, b); yes {
					fits[[2]int{i, j}] = 1
				}
			}
			if fits[[2]int{i, i}] == 0 {
				t.Fatal("a type doesn't fit itself", testkit.Text(a))
			}
		}
		for i := range l {
			for j := range l {
				for k := range l {
					if fits[[2]int{i, j}]+fits[[2]int{j, k}] == 2 && fits[[2]int{i, k}] == 0 {
						t.Fatal(testkit.Text(l[i]), testkit.Text(l[j]), testkit.Text(l[k]))
					}
				}
			}
		}
	}
}

// isA tells whether a value, told as a type that it alone has, is of a type without names, variables and functions.
func isA(v, t api.Type) bool {
	switch t.Kind {
	case api.KAny, api.KUnknown:
		return true
	case api.KNumber:
		return v.Kind == api.KNum
	case api.KString:
		return v.Kind == api.KStr
	case api.KUnion:
		return slices.ContainsFunc(t.Parts, func(p api.Type) bool { return isA(v, p) })
	case api.KArray:
		return v.Kind == api.KTuple && !slices.ContainsFunc(v.Parts, func(p api.Type) bool { return !isA(p, t.Parts[0]) })
	case api.KTuple:
		return v.Kind == api.KTuple && slices.EqualFunc(v.Parts, t.Parts, isA)
	case api.KObject:
		return v.Kind == api.KObject && !slices.ContainsFunc(t.Fields, func(f api.Field) bool {
			i := slices.IndexFunc(v.Fields, func(g api.Field) bool { return g.Name == f.Name })
			return i < 0 && f.Flags&1 == 0 || i >= 0 && !isA(v.Fields[i].Type, f.Type)
		})
	}
	return types.Order(v, t) == 0
}

// some makes a value of a type, if it has one.
func some(r *rand.Rand, t api.Type) (api.Type, bool) {
	var parts []api.Type
	each := func(l ...api.Type) bool {
		for _, p := range l {
			v, found := some(r, p)
			if !found {
				return false
			}
			parts = append(parts, v)
		}
		return true
	}
	switch t.Kind {
	case api.KNever, api.KFunc:
		return api.Type{}, false
	case api.KAny, api.KUnknown:
		return testkit.T([]string{"null", "1", `"z"`, "[2]", "{ q: 3; }"}[r.Intn(5)]), true
	case api.KNumber:
		return testkit.T([]string{"1", "7"}[r.Intn(2)]), true
	case api.KString:
		return testkit.T([]string{`"a"`, `"s"`}[r.Intn(2)]), true
	case api.KUnion:
		return some(r, t.Parts[r.Intn(len(t.Parts))])
	case api.KArray:
		return api.Type{Kind: api.KTuple, Parts: parts}, r.Intn(2) == 0 || each(t.Parts[0]) && each(t.Parts[0])
	case api.KTuple:
		ok := each(t.Parts...)
		return api.Type{Kind: api.KTuple, Parts: parts}, ok
	case api.KObject:
		v := api.Type{Kind: api.KObject, Fields: []api.Field{{Name: "z", Type: api.Type{Kind: api.KNull}}}}
		for _, f := range t.Fields {
			if f.Flags&1 != 0 && r.Intn(2) == 0 {
				continue
			}
			one, found := some(r, f.Type)
			if !found {
				return api.Type{}, false
			}
			v.Fields = append(v.Fields, api.Field{Name: f.Name, Type: one})
		}
		return v, true
	}
	return t, true
}

// P15.4
func TestMeaning(t *testing.T) {
	r := rand.New(rand.NewSource(154))
	w := relate.World{Fuel: api.MaxFuel}
	asked := 0
	for range 60000 {
		s := plain(r, 2)
		u := plain(r, 2)
		if r.Intn(3) == 0 {
			u = types.Union(s, u)
		}
		v, found := some(r, s)
		if !found {
			continue
		}
		if !isA(v, s) {
			t.Fatal(testkit.Text(v), testkit.Text(s))
		}
		if fits, _, e := relate.Fits(w, s, u); fits && e == api.OK {
			asked++
			if !isA(v, u) {
				t.Fatal(testkit.Text(v), testkit.Text(s), testkit.Text(u))
			}
		}
	}
	if asked < 1000 {
		t.Error(asked)
	}
}
