package infer_test

import (
	"slices"
	"testing"

	"plinth/api"
	"plinth/infer"
	"plinth/relate"
	"plinth/testkit"
	"plinth/types"
)

func decl(name, t string, vars ...string) relate.Decl {
	d := relate.Decl{Name: name, Type: testkit.T(t)}
	for _, v := range vars {
		d.Vars = append(d.Vars, api.Var{Name: v})
	}
	return d
}

var world = relate.World{Fuel: 1000, Decls: []relate.Decl{
	decl("box", "{ a: T; }", "T"), decl("two", "number[] | string[]"), decl("loop", "loop"), decl("grow", "grow<[T, T]>", "T"), decl("id", "<A>(A) => A"), decl("over", "((number) => null) & ((string) => true)"), decl("some", "any"), decl("wrap", "box<number>"),
}, Vars: []api.Var{{Name: "F", Bound: []api.Type{testkit.T("(number) => null")}}}}

func list(l []string) []api.Type {
	var out []api.Type
	for _, s := range l {
		out = append(out, testkit.T(s))
	}
	return out
}

// P17.1
func TestInfer(t *testing.T) {
	for _, x := range []struct {
		f    string
		args []string
		want string
		may  bool
	}{
		{"<T>(T) => T[]", []string{"5"}, "(5) => 5[]", true},
		{"<T extends number>(T) => T", []string{`"a"`}, `("a") => "a"`, false},
		{"<T extends number>(T) => T", []string{"5"}, "(5) => 5", true},
		{"<A, B>((A) => B, A[]) => B[]", []string{"(number) => string", "number[]"}, "((number) => string, number[]) => string[]", true},
		{"(number) => null", []string{"1", "2", "3"}, "(number) => null", true},
		{"() => null", nil, "() => null", true},
		{"<T>(T, T) => T", []string{"1", "null"}, "(null | 1, null | 1) => null | 1", true},
		{"<T>(T, T) => T", []string{"1"}, "(1, 1) => 1", true},
		{"<T>(T) => T", []string{"1", "2"}, "(1) => 1", true},
		{"<T>() => T", nil, "() => unknown", true},
		{"<T>(T[]) => T", []string{"number"}, "(unknown[]) => unknown", true},
		{"<T extends string>(T[]) => T", []string{"number"}, "(string[]) => string", true},
		{"<T>(T[]) => T", []string{"[]"}, "(never[]) => never", true},
		{"<T extends string>(T[]) => T", []string{"[]"}, "(never[]) => never", true},
		{"<T extends string>(T) => T", []string{"unknown"}, "(unknown) => unknown", false},
		{"<T>(T[]) => T", []string{"two"}, "((number | string)[]) => number | string", true},
		{"<T>({ a: T; }) => T", []string{"wrap"}, "({ a: number; }) => number", true},
		{"<T>(box<T>) => T", []string{"wrap"}, "(box<unknown>) => unknown", true},
		{"<T>(box<T>) => T", []string{"box<number>"}, "(box<unknown>) => unknown", true},
		{"<A, B extends A[], C extends [A, B, C, D], D>(A) => [B, C, D]", []string{"1"}, "(1) => [1[], [1, 1[], unknown, unknown], unknown]", false},
		{"<A extends B, B>(B) => A", []string{"1"}, "(1) => unknown", false},
		{"<A extends B, B>(A, B) => A", []string{"1", "number"}, "(1, number) => 1", true},
		{"<A, B extends A>(A, B) => A", []string{"1", "2"}, "(1, 2) => 1", false},
		{"<A extends A[]>(A) => A", []string{"1[]"}, "(1[]) => 1[]", false},
		{"<A>(A, <A>(A) => B) => A", []string{"1", "2"}, "(1, <A>(A) => B) => 1", true},
		{"<A>(A) => <B>(A, B) => B", []string{"B"}, "(B) => <B'>(B, B') => B'", true},
		{"<A>(A | null) => A", []string{"null | 1"}, "(null | 1) => null | 1", true},
		{"<A>(any, A) => A", []string{"1", "any"}, "(any, any) => any", true},
		{"<A>((A) => null) => A", []string{"over"}, "((unknown) => null) => unknown", true},
		{"<A>(A extends 1 ? A : A) => A", []string{"1"}, "(unknown extends 1 ? unknown : unknown) => unknown", true},
		{"<K extends keyof T, T>(T, K) => T[K]", []string{"{ a: 1; }", `"a"`}, `({ a: 1; }, "a") => { a: 1; }["a"]`, true},
		{"<K extends keyof T, T>(T, K) => T[K]", []string{"{ a: 1; }", `"b"`}, `({ a: 1; }, "b") => { a: 1; }["b"]`, false},
	} {
		got, may, e := infer.Infer(world, testkit.T(x.f), list(x.args)...)
		if e != api.OK || may != x.may || types.Order(got, testkit.T(x.want)) != 0 {
			t.Errorf("%s with %v: %s %t %d, not %s %t", x.f, x.args, testkit.Text(got), may, e, x.want, x.may)
		}
	}
}

// P17.2
func TestCall(t *testing.T) {
	for _, x := range []struct {
		f    string
		args []string
		want string
	}{
		{"<T>(T) => T[]", []string{"5"}, "5[]"}, {"<T extends number>(T) => T", []string{`"a"`}, ""}, {"<A, B>((A) => B, A[]) => B[]", []string{"(number) => string", "number[]"}, "string[]"},
		{"((number) => null) & ((string) => true)", []string{`"a"`}, "true"}, {"((number) => null) & ((string) => true)", []string{"1"}, "null"}, {"((number) => null) & ((string) => true)", []string{"null"}, ""}, {"((number) => null) & ((1) => true)", []string{"1"}, "null"},
		{"any", []string{"null", "1"}, "any"}, {"any", nil, "any"}, {"(number) => null", []string{"5", "5"}, ""}, {"(number) => null", nil, ""}, {"(number) => null", []string{"5"}, "null"}, {"(number) => null", []string{"null"}, ""}, {"() => 1", nil, "1"},
		{"id", []string{"7"}, "7"}, {"over", []string{`"a"`}, "true"}, {"some", []string{"1"}, "any"}, {"wrap", nil, ""}, {"nobody", nil, ""}, {"unknown", nil, ""}, {"never", nil, ""}, {"null", nil, ""}, {"F", []string{"1"}, ""}, {"(() => 1) | (() => 2)", nil, ""},
		{"<T>(T, T) => T", []string{"1", "2"}, "1 | 2"}, {"<T>(T) => T", nil, ""}, {"<T>(T) => T", []string{"1", "2"}, ""}, {"<T>(T[]) => T", []string{"1"}, ""}, {"<T>(T[]) => T", []string{"two"}, "number | string"}, {"<T>(box<T>) => T", []string{"{ a: 1; }"}, "unknown"},
		{"((1) => 2) & (<T>(T) => [T])", []string{"3"}, "[3]"}, {"(<T extends 1>(T) => T) & (<T>(T) => [T])", []string{"3"}, "[3]"}, {"<A>(A, (A) => A) => A", []string{"1", "(number) => 1"}, "number"}, {"<A>((A) => null, A) => A", []string{"(number) => null", "1"}, "number"},
		{"(any) => any", []string{"unknown"}, "any"}, {"(never) => 1", []string{"never"}, "1"}, {"(number) => null", []string{"any"}, ""},
	} {
		got, e := infer.Call(world, testkit.T(x.f), list(x.args)...)
		if x.want == "" {
			if got.Kind != 0 || e != api.ErrNone {
				t.Errorf("%s with %v: %s %d", x.f, x.args, testkit.Text(got), e)
			}
			continue
		}
		if e != api.OK || types.Order(got, testkit.T(x.want)) != 0 {
			t.Errorf("%s with %v: %s %d, not %s", x.f, x.args, testkit.Text(got), e, x.want)
		}
	}
}

// P17.1, P17.2: what is refused.
func TestWrong(t *testing.T) {
	null, f := testkit.T("null"), testkit.T("<T>(T) => T")
	bad := api.Type{Kind: api.KUnion, Parts: []api.Type{null}}
	wrong := world
	wrong.Fuel = -1
	refused := func(w relate.World, f api.Type, inferE, callE api.Errno, args ...api.Type) {
		t.Helper()
		if got, may, e := infer.Infer(w, f, args...); got.Kind != 0 || may || e != inferE {
			t.Error(testkit.Text(f), got, may, e, inferE)
		}
		if got, e := infer.Call(w, f, args...); got.Kind != 0 || e != callE {
			t.Error(testkit.Text(f), got, e, callE)
		}
	}
	refused(wrong, f, api.ErrForm, api.ErrForm, null)
	refused(world, bad, api.ErrForm, api.ErrForm, null)
	refused(world, f, api.ErrForm, api.ErrForm, bad)
	refused(world, f, api.ErrForm, api.ErrForm, null, bad)
	refused(world, null, api.ErrForm, api.ErrNone, null)
	refused(world, testkit.T("over"), api.ErrForm, api.ErrNone, null)
	refused(world, testkit.T("loop"), api.ErrForm, api.ErrFuel, null)
	refused(world, testkit.T("grow<1>"), api.ErrForm, api.ErrLarge, null)
	refused(world, f, api.ErrFuel, api.ErrFuel, testkit.T("loop"))
	refused(world, f, api.ErrLarge, api.ErrLarge, testkit.T("grow<1>"))
	refused(world, testkit.T("<T>(null, T) => T"), api.ErrFuel, api.ErrFuel, testkit.T("loop"))
	refused(world, testkit.T("<T extends loop>(T) => T"), api.ErrFuel, api.ErrFuel, null)
	wide := api.Type{Kind: api.KTuple, Parts: slices.Repeat([]api.Type{null}, 3000)}
	refused(world, testkit.T("<T>(T, T) => T"), api.ErrLarge, api.ErrLarge, wide, wide)
	refused(world, testkit.T("<T extends [T, T]>(T) => null"), api.ErrLarge, api.ErrLarge, wide)
	refused(world, testkit.T("<T, U extends [T, T]>(T) => U"), api.ErrLarge, api.ErrLarge, wide)
	// Without variables nothing is made, and the first no ends it.
	if got, e := infer.Call(world, testkit.T("(loop) => null"), null, null); got.Kind != 0 || e != api.ErrNone {
		t.Error(got, e)
	}
	if got, e := infer.Call(world, testkit.T("(1, loop) => null"), null, null); got.Kind != 0 || e != api.ErrNone {
		t.Error(got, e)
	}
	// With variables the function at them is made ahead of the question how many parameters it has.
	if got, e := infer.Call(world, f, testkit.T("loop"), null); got.Kind != 0 || e != api.ErrFuel {
		t.Error(got, e)
	}
	if got, may, e := infer.Infer(world, f, null, testkit.T("loop")); got.Kind != api.KFunc || !may || e != api.OK {
		t.Error(got, may, e)
	}
}

// P17.3
func TestWhatFollows(t *testing.T) {
	for _, s := range []string{"() => null", "(number) => string", "(any, unknown, never) => A", "((A) => B, box<A>) => C[]", "(loop) => loop"} {
		f := testkit.T(s)
		last := len(f.Parts) - 1
		if got, e := infer.Call(world, f, f.Parts[:last]...); types.Order(got, f.Parts[last]) != 0 || e != api.OK {
			t.Error(s, got, e)
		}
	}
}
