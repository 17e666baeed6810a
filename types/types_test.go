package types_test

import (
	"math/rand"
	"slices"
	"strings"
	"testing"

	"plinth/api"
	"plinth/testkit"
	"plinth/types"
)

type typ = api.Type

func k(kind int, parts ...typ) typ { return typ{Kind: kind, Parts: parts} }

func named(kind int, name string, parts ...typ) typ { return typ{Kind: kind, Text: name, Parts: parts} }

func num(n int64) typ { return typ{Kind: api.KNum, N: n} }

func str(s string) typ { return typ{Kind: api.KStr, Text: s} }

func object(l ...api.Field) typ { return typ{Kind: api.KObject, Fields: l} }

var null, number, text = k(api.KNull), k(api.KNumber), k(api.KString)

// P9.1: types in their order.
func TestOrder(t *testing.T) {
	bound := func(l ...typ) []api.Var { return []api.Var{{Name: "A", Bound: l}} }
	l := []typ{
		{}, k(api.KNever), k(api.KUnknown), k(api.KAny), null, k(api.KTrue), k(api.KFalse), number, text,
		num(0), num(1), num(2), str(""), str("B"), str("a"), str("aa"), str("b"), str("é"),
		k(api.KArray, null), k(api.KArray, number), k(api.KTuple), k(api.KTuple, number), k(api.KTuple, null, null), k(api.KTuple, null, number), k(api.KTuple, number, null),
		{Kind: api.KFunc, Parts: []typ{null}}, {Kind: api.KFunc, Parts: []typ{null}, Vars: bound()}, {Kind: api.KFunc, Parts: []typ{null}, Vars: bound(null)},
		{Kind: api.KFunc, Parts: []typ{null}, Vars: bound(number)}, {Kind: api.KFunc, Parts: []typ{null}, Vars: bound(null, null)}, {Kind: api.KFunc, Parts: []typ{null}, Vars: []api.Var{{Name: "B"}}},
		{Kind: api.KFunc, Parts: []typ{null}, Vars: []api.Var{{Name: "A"}, {Name: "A"}}}, {Kind: api.KFunc, Parts: []typ{number}},
		object(), object(api.Field{Name: "a", Type: null}), object(api.Field{Name: "a", Type: number}), object(api.Field{Name: "a", Flags: 1, Type: null}), object(api.Field{Name: "b", Type: null}),
		object(api.Field{Name: "a", Type: null}, api.Field{Name: "a", Type: null}), k(api.KUnion, null, number), named(api.KVar, "A"), named(api.KVar, "B"),
		named(api.KRef, "A", number), named(api.KRef, "B"), k(api.KKeyof, null), k(api.KIndex, null, null), named(api.KMapped, "A", null, null),
		{Kind: api.KMapped, Text: "A", N: 1, Parts: []typ{null, null}}, named(api.KMapped, "B", null, null), k(api.KCond, null, null, null, null), named(api.KInfer, "A"), k(api.KOver, null, null),
	}
	for i, a := range l {
		for j, b := range l {
			want := 0
			if i < j {
				want = -1
			} else if i > j {
				want = 1
			}
			if got := types.Order(a, b); got != want {
				t.Errorf("%v and %v: %d, not %d", a, b, got, want)
			}
		}
	}
	if types.Order(typ{Kind: 9, N: -5}, typ{Kind: 9}) != -1 || types.Order(typ{Parts: []typ{}}, typ{}) != 0 {
		t.Error("order")
	}
}

// P9.2
func TestUnion(t *testing.T) {
	for _, x := range []struct {
		l    []typ
		want typ
	}{
		{nil, k(api.KNever)},
		{[]typ{number}, number},
		{[]typ{number, num(5), null}, k(api.KUnion, null, number)},
		{[]typ{k(api.KTrue), k(api.KNever), k(api.KAny)}, k(api.KAny)},
		{[]typ{str("a"), str("a")}, str("a")},
		{[]typ{k(api.KUnion, null, number), text}, k(api.KUnion, null, number, text)},
		{[]typ{text, str("a"), num(1), str("b")}, k(api.KUnion, text, num(1))},
		{[]typ{str("b"), num(2), str("a"), num(1)}, k(api.KUnion, num(1), num(2), str("a"), str("b"))},
		{[]typ{k(api.KUnknown), null, k(api.KAny)}, k(api.KAny)},
		{[]typ{null, k(api.KUnknown), number}, k(api.KUnknown)},
		{[]typ{k(api.KNever), k(api.KNever)}, k(api.KNever)},
		{[]typ{k(api.KUnion, k(api.KUnion, k(api.KUnion), null), k(api.KUnion, num(1), k(api.KNever))), number}, k(api.KUnion, null, number)},
		{[]typ{k(api.KUnion, k(api.KAny))}, k(api.KAny)},
		{[]typ{k(api.KAny), named(api.KInfer, "V"), number, k(api.KArray, named(api.KInfer, "W"))}, k(api.KUnion, k(api.KAny), k(api.KArray, named(api.KInfer, "W")), named(api.KInfer, "V"))},
		{[]typ{k(api.KUnknown), named(api.KInfer, "V"), k(api.KAny)}, k(api.KUnion, k(api.KAny), named(api.KInfer, "V"))},
		{[]typ{k(api.KUnknown), named(api.KInfer, "V"), null}, k(api.KUnion, k(api.KUnknown), named(api.KInfer, "V"))},
		{[]typ{k(api.KAny), testkit.T("A extends infer V ? V : A")}, k(api.KAny)},
		{[]typ{k(api.KAny), testkit.T("A extends B ? infer V : A")}, k(api.KUnion, k(api.KAny), testkit.T("A extends B ? infer V : A"))},
		{[]typ{k(api.KAny), testkit.T("infer V extends B ? C : A")}, k(api.KUnion, k(api.KAny), testkit.T("infer V extends B ? C : A"))},
		{[]typ{k(api.KAny), testkit.T("{ a: number; b: infer V; }")}, k(api.KUnion, k(api.KAny), testkit.T("{ a: number; b: infer V; }"))},
		{[]typ{k(api.KAny), testkit.T("<A extends infer V>(A) => A")}, k(api.KAny)},
		{[]typ{k(api.KTrue), k(api.KFalse), k(api.KTrue)}, k(api.KUnion, k(api.KTrue), k(api.KFalse))},
		{[]typ{object(api.Field{Name: "a", Flags: 1, Type: null}), object(api.Field{Name: "a", Type: null})}, k(api.KUnion, object(api.Field{Name: "a", Type: null}), object(api.Field{Name: "a", Flags: 1, Type: null}))},
		{[]typ{k(api.KArray, number), k(api.KArray, num(5))}, k(api.KUnion, k(api.KArray, number), k(api.KArray, num(5)))},
		{[]typ{{Kind: 99}, {}}, k(api.KUnion, typ{}, typ{Kind: 99})},
	} {
		if got := types.Union(x.l...); types.Order(got, x.want) != 0 {
			t.Errorf("%v: %v, not %v", x.l, got, x.want)
		}
	}
	l := []typ{text, number, k(api.KUnion, num(2), null)}
	before := slices.Clone(l)
	types.Union(l...)
	if !slices.EqualFunc(l, before, func(a, b typ) bool { return types.Order(a, b) == 0 }) {
		t.Error("what was handed in is changed")
	}
}

var texts = []string{
	"never", "unknown", "any", "null", "true", "false", "number", "string", "0", "9223372036854775807", `""`, `"a\n\"\\"`, "number[]", "(null | number)[]", "[]", "[null, number]",
	"() => null", "(null, number) => string", "<A>() => A", "<A, B extends A[], C extends keyof B>(A, B) => C", "(null | number) => any", "((A) => B) => C", "(() => A)[]",
	"{ }", "{ a: number; }", "{ a?: A; mut b: B; mut c?: C; d: null; }", "null | number | string", "true | false", `1 | 2 | "a"`, "number[] | (() => null)", "A", "A'", "A''", "infer V", "infer V'",
	"ref", "ref'", "ref<A>", "Box<number, ref<null>>", "keyof A", "keyof (keyof A)", "keyof (A | B)", "keyof A[]", "(keyof A)[]", "A[B]", "(A | B)[C | D]", "(keyof A)[keyof B]", "A[B][C]",
	"{ [K in A]: K }", "{ mut [K in A]: K }", "{ [K in A]?: K }", "{ mut [K in keyof A]?: A[K] }", "A extends B ? C : D", "A = A extends B ? C : D", "(A | B) extends (C | D) ? E | F : () => G",
	"(A extends B ? C : D) extends infer V[] ? V : E extends F ? G : H", "A extends infer V[] ? V : never", "(() => A) & (() => B)", "((A) => B) & (<C>(C) => D) & (() => null)", "(((A) => B) & (() => C))[]",
	"null | ((() => A) & (() => B))", "keyof ((() => A) & (() => B))", "any | infer V", "unknown | infer V[]",
}

// P9.3, P9.4: texts of types that are formed.
func TestText(t *testing.T) {
	for _, s := range texts {
		x := testkit.T(s)
		if got, e := types.Text(x); got != s || e != api.OK || !types.Formed(x) {
			t.Errorf("%q: %q %d", s, got, e)
		}
	}
}

// P9.3, P9.4: types that aren't formed.
func TestNotFormed(t *testing.T) {
	v, f := named(api.KVar, "A"), k(api.KFunc, null)
	vars := func(l ...api.Var) typ { return typ{Kind: api.KFunc, Parts: []typ{null}, Vars: l} }
	l := []typ{
		{}, {Kind: -1}, {Kind: 24}, num(-1), k(api.KNull, null), {Kind: api.KNull, Text: "a"}, {Kind: api.KNever, N: 1}, {Kind: api.KAny, Fields: []api.Field{{Name: "a", Type: null}}}, {Kind: api.KString, Vars: []api.Var{{Name: "A"}}},
		{Kind: api.KNum, Text: "1"}, {Kind: api.KNum, Parts: []typ{null}}, {Kind: api.KStr, N: 1}, {Kind: api.KStr, Parts: []typ{null}}, k(api.KArray), k(api.KArray, null, null), k(api.KKeyof), k(api.KKeyof, v, v), k(api.KFunc), k(api.KTuple, typ{}),
		vars(api.Var{Name: ""}), vars(api.Var{Name: "number"}), vars(api.Var{Name: "A"}, api.Var{Name: "A"}), vars(api.Var{Name: "A", Bound: []typ{null, null}}), vars(api.Var{Name: "A", Bound: []typ{{}}}),
		object(api.Field{Name: "", Type: null}), object(api.Field{Name: "a b", Type: null}), object(api.Field{Name: "a"}), object(api.Field{Name: "a", Flags: 4, Type: null}), object(api.Field{Name: "a", Flags: -1, Type: null}),
		object(api.Field{Name: "b", Type: null}, api.Field{Name: "a", Type: null}), object(api.Field{Name: "a", Type: null}, api.Field{Name: "a", Type: null}),
		k(api.KUnion), k(api.KUnion, null), k(api.KUnion, number, null), k(api.KUnion, null, null), k(api.KUnion, number, num(1)), k(api.KUnion, text, str("a")), k(api.KUnion, k(api.KNever), null), k(api.KUnion, k(api.KAny), null), k(api.KUnion, k(api.KUnknown), null),
		k(api.KUnion, k(api.KUnknown), k(api.KAny)), k(api.KUnion, null, k(api.KUnion, number, text)), named(api.KVar, ""), named(api.KVar, "'"), named(api.KVar, "A'b"), named(api.KVar, "1"), named(api.KVar, "any"), named(api.KVar, "A", null),
		named(api.KInfer, ""), named(api.KInfer, "V", null), {Kind: api.KVar, Text: "A", N: 1}, named(api.KRef, ""), named(api.KRef, "string"), named(api.KRef, "a", typ{}), {Kind: api.KRef, Text: "a", N: 1}, k(api.KIndex, v), k(api.KIndex, v, v, v),
		named(api.KMapped, "K", v), named(api.KMapped, "", v, v), {Kind: api.KMapped, Text: "K", N: 4, Parts: []typ{v, v}}, {Kind: api.KMapped, Text: "K", N: -1, Parts: []typ{v, v}}, named(api.KMapped, "K", v, v, v),
		k(api.KCond, v, v, v), k(api.KCond, v, v, v, v, v), named(api.KCond, "A", v, v, v, v), {Kind: api.KCond, N: 1, Parts: []typ{v, v, v, v}}, {Kind: api.KCond, N: 2, Text: "A", Parts: []typ{v, v, v, v}}, k(api.KOver), k(api.KOver, f), k(api.KOver, f, null),
		k(api.KArray, k(api.KUnion, null)), {Kind: api.KFunc, Parts: []typ{null}, N: 1}, {Kind: api.KObject, Parts: []typ{null}}, {Kind: api.KTuple, Text: "a"}, {Kind: api.KOver, N: 1, Parts: []typ{f, f}}, {Kind: api.KArray, Vars: []api.Var{{Name: "A"}}, Parts: []typ{null}},
		{Kind: api.KUnion, Text: "a", Parts: []typ{null, number}}, {Kind: api.KIndex, N: 1, Parts: []typ{v, v}}, {Kind: api.KMapped, Text: "K", Parts: []typ{v, v}, Fields: []api.Field{{Name: "a", Type: null}}},
	}
	for _, x := range l {
		s, e := types.Text(x)
		if types.Formed(x) || s != "" || e != api.ErrForm {
			t.Errorf("%v: %q %d", x, s, e)
		}
		if types.Formed(k(api.KTuple, null, x)) {
			t.Errorf("a tuple with %v", x)
		}
		types.Free(x)
	}
	for _, x := range []typ{vars(api.Var{Name: "A", Bound: []typ{v}}, api.Var{Name: "A'"}), k(api.KOver, f, f), named(api.KRef, "a'"), k(api.KUnion, k(api.KAny), named(api.KInfer, "V"))} {
		if !types.Formed(x) {
			t.Errorf("%v is formed", x)
		}
	}
}

// P9.1, P9.3: how many nodes.
func TestNodes(t *testing.T) {
	for s, want := range map[string]int{"null": 1, "null | number": 3, "<A extends null[]>(A) => A": 5, "{ a: null; b: [A, B]; }": 5, "Box<A, B>": 3, "{ [K in A]: B }": 3} {
		if got := types.Nodes(testkit.T(s)); got != want {
			t.Errorf("%s: %d", s, got)
		}
	}
	tuple := func(count int) typ { return k(api.KTuple, slices.Repeat([]typ{null}, count)...) }
	for _, x := range [][2]int{{api.MaxParts - 1, api.MaxParts}, {api.MaxParts, api.MaxParts + 1}, {3 * api.MaxParts, api.MaxParts + 1}} {
		if got := types.Nodes(tuple(x[0])); got != x[1] {
			t.Error(x, got)
		}
	}
	if !types.Formed(tuple(api.MaxParts-1)) || types.Formed(tuple(api.MaxParts)) {
		t.Error("the limit of a type")
	}
	deep := null
	for range api.MaxParts - 1 {
		deep = k(api.KArray, deep)
	}
	if !types.Formed(deep) || types.Formed(k(api.KArray, deep)) || types.Nodes(k(api.KArray, k(api.KArray, deep))) != api.MaxParts+1 {
		t.Error("the limit of a deep type")
	}
	if types.Formed(object(api.Field{Name: "a", Type: deep})) || types.Formed(typ{Kind: api.KFunc, Parts: []typ{null}, Vars: []api.Var{{Name: "A", Bound: []typ{deep}}}}) {
		t.Error("fields and bounds count")
	}
}

// P9.3
func TestFree(t *testing.T) {
	for s, want := range map[string]string{
		"null": "", "A": "A", "[B, A, B']": "A B B'", "ref<A>": "A", "infer V": "", "{ a: B; b?: A; }": "A B", "A | B[]": "A B",
		"<A>(A) => B": "B", "<A extends B>(A) => A": "B", "<A extends A, B extends A>(C) => B": "C", "<A>(A, <B>(A, B) => C) => B": "B C",
		"{ [K in K]: K }": "K", "{ [K in A]: [K, B] }": "A B", "A extends infer V ? V : U": "A U", "A extends infer V ? [V, W] : V": "A V W", "V extends infer V ? V : W": "V W",
		"T = T extends U ? T : T": "T U", "T = A extends T ? T : T": "A", "T = [T, A] extends [T, infer V] ? V : [V, T]": "A T V",
		"A extends (B extends infer V ? V : W) ? V : C": "A B C V W", "A extends (infer W extends infer V ? V : infer X) ? [V, W, X] : C": "A C V",
		"keyof A": "A", "A[B]": "A B", "(<A>(A) => B) & ((C) => A)": "A B C", "{ [K in A]: { [L in K]: [K, L] } }": "A", "[<A>(A) => A, A]": "A",
	} {
		if got := strings.Join(types.Free(testkit.T(s)), " "); got != want {
			t.Errorf("%s: %q, not %q", s, got, want)
		}
	}
}

// pick makes types, formed or not.
func pick(r *rand.Rand, depth int) typ {
	if depth == 0 {
		return []typ{k(api.KNever), k(api.KUnknown), k(api.KAny), null, k(api.KTrue), number, text, num(r.Int63n(3)), str([]string{"a", "b"}[r.Intn(2)]), named(api.KVar, "A"), named(api.KInfer, "V")}[r.Intn(11)]
	}
	switch r.Intn(5) {
	case 0:
		return k(api.KArray, pick(r, depth-1))
	case 1:
		return k(api.KUnion, pick(r, depth-1), pick(r, depth-1), pick(r, r.Intn(depth)))
	case 2:
		return types.Union(pick(r, depth-1), pick(r, depth-1), pick(r, r.Intn(depth)))
	case 3:
		return object(api.Field{Name: "a", Type: pick(r, depth-1)})
	}
	return k(api.KTuple, pick(r, depth-1), pick(r, r.Intn(depth)))
}

// P9.1, P9.2, P9.3: what goes together.
func TestLaws(t *testing.T) {
	r := rand.New(rand.NewSource(9))
	for range 20000 {
		a, b, c := pick(r, r.Intn(4)), pick(r, r.Intn(4)), pick(r, r.Intn(3))
		if types.Order(a, b) != -types.Order(b, a) || types.Order(a, a) != 0 {
			t.Fatal("order", a, b)
		}
		if types.Order(a, b) < 0 && types.Order(b, c) < 0 && types.Order(a, c) >= 0 {
			t.Fatal("order goes on", a, b, c)
		}
		u := types.Union(a, b, c)
		if types.Order(u, types.Union(c, b, a)) != 0 || types.Order(u, types.Union(types.Union(a, b), c)) != 0 || types.Order(u, types.Union(u, u)) != 0 {
			t.Fatal("union", a, b, c)
		}
		formed := types.Formed(a) && types.Formed(b) && types.Formed(c)
		if formed && !types.Formed(u) {
			t.Fatal("a union of formed types is formed", a, b, c)
		}
		if a.Kind == api.KUnion {
			parts := true
			for _, p := range a.Parts {
				parts = parts && types.Formed(p)
			}
			if types.Formed(a) != (parts && types.Order(a, types.Union(a.Parts...)) == 0) {
				t.Fatal("formed", a)
			}
		}
	}
}
