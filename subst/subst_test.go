package subst_test

import (
	"math/rand"
	"slices"
	"strings"
	"testing"

	"plinth/api"
	"plinth/subst"
	"plinth/testkit"
	"plinth/types"
)

// binds reads "A = t; B = u".
func binds(s string) []subst.Bind {
	var l []subst.Bind
	for _, one := range strings.Split(s, "; ") {
		if name, t, found := strings.Cut(one, " = "); found {
			l = append(l, subst.Bind{Name: name, Type: testkit.T(t)})
		}
	}
	return l
}

// P10.1
func TestOf(t *testing.T) {
	for _, x := range [][3]string{
		{"T[]", "T = number", "number[]"},
		{"T | number", "T = 5", "number"},
		{"(T) => U", "T = U; U = T", "(U) => T"},
		{"<A>(A) => T", "T = A", "<A'>(A') => A"},
		{"{ [K in T]: K }", "K = number", "{ [K in T]: K }"},
		{"T extends infer V ? V : T", "T = V", "V extends infer V ? V : V"},
		{"T extends infer V ? [V, T] : T", "T = V", "V extends infer V' ? [V', V] : V"},
		{"D = T extends D ? D : T", "T = D", "D' = D extends D' ? D' : D"},
		{"D = T extends D ? D : D", "T = D", "D = D extends D ? D : D"},
		{"T", "T = number; T = string", "number"},
		{"[T, U]", "", "[T, U]"},
		{"[T, U]", "V = number", "[T, U]"},
		{"[T, T', T'']", "T' = null", "[T, null, T'']"},
		{"ref<T>[T]", "T = keyof A", "ref<keyof A>[keyof A]"},
		{"{ a: T; mut b?: T[]; }", "T = U", "{ a: U; mut b?: U[]; }"},
		{"T | U | null", "T = string | null; U = \"a\"", "null | string"},
		{"T | U", "T = never; U = never", "never"},
		{"T | null", "T = any", "any"},
		{"T | (infer V)[]", "T = any", "any | (infer V)[]"},
		{"Box<T | U>", "T = unknown", "Box<unknown>"},
		{"((T) => T) & (() => T)", "T = null", "((null) => null) & (() => null)"},
		{"infer T", "T = null", "infer T"},
		{"[T, ref]", "T = [U]; U = null", "[[U], ref]"},
		// what a KFunc binds
		{"<A>(A) => B", "A = number", "<A>(A) => B"},
		{"<A extends T>(A) => A", "T = A", "<A' extends A>(A') => A'"},
		{"<A extends A>(A) => T", "T = A[]", "<A' extends A'>(A') => A[]"},
		{"<A, A'>(A, A') => T", "T = A", "<A'', A'>(A'', A') => A"},
		{"<A, A'>(A, A') => T", "T = [A, A']", "<A'', A'''>(A'', A''') => [A, A']"},
		{"<A', A>(A, A') => T", "T = [A, A']", "<A'', A'''>(A''', A'') => [A, A']"},
		{"<A>(A, A') => T", "T = A", "<A''>(A'', A') => A"},
		{"<A>(A) => T", "T = [A, A', A'']", "<A'''>(A''') => [A, A', A'']"},
		{"<A>(A, B) => U", "T = A", "<A>(A, B) => U"},
		{"<A>(T) => A", "T = A; A = number", "<A'>(A) => A'"},
		{"<A, B>(A, B) => T", "T = B", "<A, B'>(A, B') => B"},
		{"<A>(A) => <B>(A, B) => T", "T = [A, B]", "<A'>(A') => <B'>(A', B') => [A, B]"},
		{"<A>(A) => <A'>(A, A') => T", "T = A", "<A'>(A') => <A''>(A', A'') => A"},
		{"<A>(A) => <A'>(A') => T", "T = A", "<A'>(A') => <A'>(A') => A"},
		{"<A>(A) => <A>(A) => T", "T = A", "<A'>(A') => <A'>(A') => A"},
		{"[<A>(A) => T, <B>(B) => T]", "T = A", "[<A'>(A') => A, <B>(B) => A]"},
		{"<A>() => <A extends T>(A) => A", "T = A", "<A'>() => <A' extends A>(A') => A'"},
		// what a KMapped binds
		{"{ [K in T]: T }", "T = K", "{ [K' in K]: K }"},
		{"{ [K in T]: [K, T] }", "T = keyof K", "{ [K' in keyof K]: [K', keyof K] }"},
		{"{ [K in K]: K }", "K = number", "{ [K in number]: K }"},
		{"{ [K in K]: [K, T] }", "K = T; T = K", "{ [K' in T]: [K', K] }"},
		{"{ mut [K in T]?: K }", "T = K", "{ mut [K in K]?: K }"},
		{"{ [K in T]: [T, K'] }", "T = K", "{ [K'' in K]: [K, K'] }"},
		// what a KCond binds
		{"D = T extends T ? D : E", "T = D", "D' = D extends D ? D' : E"},
		{"D = T extends E ? T : D", "T = D", "D' = D extends E ? D : D'"},
		{"D = D extends D ? D : D", "D = number", "D = number extends D ? D : D"},
		{"T extends T ? T : T", "T = D", "D extends D ? D : D"},
		{"T extends (infer V)[] ? V : V", "V = number", "T extends (infer V)[] ? V : number"},
		{"T extends [infer V, infer W] ? [V, W, T] : T", "T = [V, W]", "[V, W] extends [infer V', infer W'] ? [V', W', [V, W]] : [V, W]"},
		{"T extends [infer W, infer V] ? [V, W, T] : T", "T = W", "W extends [infer W', infer V] ? [V, W', W] : W"},
		{"A extends (infer V | infer V') ? [V, T] : T", "T = V", "A extends (infer V' | infer V'') ? [V'', V] : V"},
		{"A extends [infer V, infer V'] ? [V, V', T] : T", "T = V", "A extends [infer V'', infer V'] ? [V'', V', V] : V"},
		{"A extends { a: infer V; } ? [V, T] : T", "T = V", "A extends { a: infer V'; } ? [V', V] : V"},
		{"A extends [infer V, B extends infer V ? V : V] ? [V, T] : T", "T = V", "A extends [infer V', B extends infer V ? V : V] ? [V', V] : V"},
		{"A extends [infer V, (infer V extends infer V ? V : V)] ? [V, T] : T", "T = V", "A extends [infer V', (infer V' extends infer V ? V : V)] ? [V', V] : V"},
		{"A extends [infer V, infer V] ? [V, T] : T", "T = V", "A extends [infer V', infer V'] ? [V', V] : V"},
		{"D = A extends infer V ? [D, V, T] : D", "T = [D, V]", "D' = A extends infer V' ? [D', V', [D, V]] : D'"},
		{"D = A extends infer D' ? [D, D', T] : D", "T = D", "D' = A extends infer D'' ? [D', D'', D] : D'"},
		{"A extends (infer V)[] ? B : T", "T = V", "A extends (infer V)[] ? B : V"},
		{"A extends (infer V | 1 | null) ? [V, T] : C", "T = V; A = V'", "V' extends (infer V' | 1 | null) ? [V', V] : C"},
		{"V = A extends infer V ? [V, T] : V", "T = V", "V' = A extends infer V' ? [V', V] : V'"},
	} {
		want := testkit.T(x[2])
		from := testkit.T(x[0])
		got, e := subst.Of(from, binds(x[1])...)
		if types.Order(from, testkit.T(x[0])) != 0 {
			t.Errorf("%s is changed", x[0])
		}
		if types.Order(got, want) != 0 || e != api.OK {
			t.Errorf("%s with %s: %s %d, not %s", x[0], x[1], testkit.Text(got), e, x[2])
		}
	}
}

// P10.1: what is refused.
func TestWrong(t *testing.T) {
	null, bad := testkit.T("null"), api.Type{Kind: api.KUnion, Parts: []api.Type{{Kind: api.KNull}}}
	for _, x := range []struct {
		t api.Type
		l []subst.Bind
	}{
		{bad, nil}, {api.Type{}, []subst.Bind{{"T", null}}}, {null, []subst.Bind{{"T", bad}}}, {null, []subst.Bind{{"T", null}, {"T", bad}}}, {null, []subst.Bind{{"", null}}},
		{null, []subst.Bind{{"number", null}}}, {null, []subst.Bind{{"T 1", null}}}, {null, []subst.Bind{{"T", null}, {"'", null}}},
	} {
		if got, e := subst.Of(x.t, x.l...); got.Kind != 0 || e != api.ErrForm {
			t.Error(x, got, e)
		}
	}
}

func tuple(count int, t api.Type) api.Type {
	return api.Type{Kind: api.KTuple, Parts: slices.Repeat([]api.Type{t}, count)}
}

// P10.1: how large it may be.
func TestLarge(t *testing.T) {
	v, null := testkit.T("T"), testkit.T("null")
	for _, x := range []struct {
		t, with api.Type
		e       api.Errno
	}{
		{v, tuple(api.MaxParts-1, null), api.OK},
		{testkit.T("T[]"), tuple(api.MaxParts-1, null), api.ErrLarge},
		{testkit.T("T[]"), tuple(api.MaxParts-2, null), api.OK},
		{tuple(5, v), tuple(818, null), api.OK},
		{tuple(5, v), tuple(819, null), api.ErrLarge},
		{tuple(64, v), tuple(63, null), api.ErrLarge},
		{tuple(63, v), tuple(64, null), api.OK},
		{tuple(4000, v), tuple(4000, null), api.ErrLarge},
		{tuple(api.MaxParts-1, null), tuple(4000, null), api.OK},
		{testkit.T("<T>(T, T, T) => T"), tuple(4000, null), api.OK},
		{testkit.T("<A extends T>(T) => A"), tuple(2046, null), api.OK},
		{testkit.T("<A extends T>(T) => A"), tuple(2047, null), api.ErrLarge},
		{testkit.T("T | U"), tuple(api.MaxParts-1, null), api.ErrLarge},
		{testkit.T("{ a: T; }"), tuple(api.MaxParts-1, null), api.ErrLarge},
		{api.Type{Kind: api.KMapped, Text: "K", Parts: []api.Type{v, tuple(2000, null)}}, tuple(2100, null), api.ErrLarge},
		{testkit.T("T | any | infer V"), tuple(api.MaxParts-1, null), api.OK},
	} {
		got, e := subst.Of(x.t, subst.Bind{Name: "T", Type: x.with})
		if e != x.e || (got.Kind == 0) != (e != api.OK) {
			t.Errorf("%d nodes: %d, not %d", types.Nodes(x.t), e, x.e)
		}
	}
	// Both are counted, though they are one then.
	if _, e := subst.Of(testkit.T("T | U"), subst.Bind{Name: "T", Type: tuple(2100, null)}, subst.Bind{Name: "U", Type: tuple(2100, null)}); e != api.ErrLarge {
		t.Error(e)
	}
}

// P10.2
func TestRename(t *testing.T) {
	for _, x := range [][4]string{
		{"[T, U]", "T", "V", "[V, U]"}, {"T | U", "T", "U", "U"}, {"<A>(A) => T", "T", "A", "<A'>(A') => A"}, {"[T]", "T", "T'", "[T']"}, {"[T]", "U", "V", "[T]"}, {"[T]", "T", "T", "[T]"},
	} {
		if got, e := subst.Rename(testkit.T(x[0]), x[1], x[2]); types.Order(got, testkit.T(x[3])) != 0 || e != api.OK {
			t.Error(x, testkit.Text(got), e)
		}
	}
	for _, x := range [][2]string{{"", "T"}, {"T", ""}, {"any", "T"}, {"T", "any"}, {"T", "'"}} {
		if got, e := subst.Rename(testkit.T("T"), x[0], x[1]); got.Kind != 0 || e != api.ErrForm {
			t.Error(x, got, e)
		}
	}
	if _, e := subst.Rename(api.Type{}, "T", "U"); e != api.ErrForm {
		t.Error(e)
	}
}

// pick makes a type that is formed.
func pick(r *rand.Rand, depth int) api.Type {
	name := func() string { return []string{"A", "B", "V", "A'", "V'"}[r.Intn(5)] }
	if depth == 0 {
		return []api.Type{{Kind: api.KNull}, {Kind: api.KVar, Text: name()}, {Kind: api.KVar, Text: name()}, {Kind: api.KInfer, Text: name()}}[r.Intn(4)]
	}
	sub := func() api.Type { return pick(r, depth-1-r.Intn(depth)) }
	switch r.Intn(8) {
	case 0:
		return types.Union(sub(), sub(), sub())
	case 1:
		return api.Type{Kind: api.KTuple, Parts: []api.Type{sub(), sub()}}
	case 2:
		return api.Type{Kind: api.KObject, Fields: []api.Field{{Name: "a", Type: sub()}}}
	case 3:
		return api.Type{Kind: api.KMapped, Text: name(), Parts: []api.Type{sub(), sub()}}
	case 4:
		return api.Type{Kind: api.KCond, Parts: []api.Type{sub(), sub(), sub(), sub()}}
	case 5:
		return api.Type{Kind: api.KCond, N: 1, Text: name(), Parts: []api.Type{sub(), sub(), sub(), sub()}}
	}
	f := api.Type{Kind: api.KFunc, Parts: []api.Type{sub(), sub()}, Vars: []api.Var{{Name: "A", Bound: []api.Type{sub()}}, {Name: "V'"}}}
	if r.Intn(2) == 0 {
		f.Vars = []api.Var{{Name: name()}}
	}
	return f
}

// P10.3
func TestWhatFollows(t *testing.T) {
	r := rand.New(rand.NewSource(10))
	for range 20000 {
		x := pick(r, 4)
		l := []subst.Bind{{"A", pick(r, 1)}, {"V", pick(r, 1)}}
		got, e := subst.Of(x, l...)
		if e != api.OK || !types.Formed(got) {
			t.Fatal(testkit.Text(x), e)
		}
		free := types.Free(x)
		var want []string
		for _, name := range free {
			switch name {
			case "A":
				want = append(want, types.Free(l[0].Type)...)
			case "V":
				want = append(want, types.Free(l[1].Type)...)
			default:
				want = append(want, name)
			}
		}
		slices.Sort(want)
		want = slices.Compact(want)
		brought := slices.Contains([]int{l[0].Type.Kind, l[1].Type.Kind}, api.KInfer) || strings.Contains(testkit.Text(l[0].Type)+testkit.Text(l[1].Type), "infer")
		if !brought && !slices.Equal(types.Free(got), want) {
			t.Fatalf("%s with A = %s, V = %s: %s: %v, not %v", testkit.Text(x), testkit.Text(l[0].Type), testkit.Text(l[1].Type), testkit.Text(got), types.Free(got), want)
		}
		if same, _ := subst.Of(x, subst.Bind{Name: "Z", Type: l[0].Type}); types.Order(same, x) != 0 {
			t.Fatal("no bind that is free, and another answer", testkit.Text(x))
		}
	}
}
