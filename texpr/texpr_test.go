package texpr_test

import (
	"fmt"
	"slices"
	"strings"
	"testing"

	"plinth/api"
	"plinth/pexpr"
	"plinth/pfile"
	"plinth/ptype"
	"plinth/testkit"
	"plinth/texpr"
	"plinth/types"
)

var scope = texpr.Scope{
	Names: []texpr.Name{{"Box", "box'", 1}, {"Two", "two", 2}, {"one", "one''", 0}, {"one", "other", 1}, {"T", "hidden", 0}, {"Odd", "odd", -1}},
	Vars:  []string{"T", "U", "T"},
}

func read(t *testing.T, s string) api.Node {
	t.Helper()
	n, at, e := ptype.Type(s)
	if e != api.OK {
		t.Fatal(s, at)
	}
	return n
}

func told(l []api.Diag) string {
	var out []string
	for _, d := range l {
		out = append(out, fmt.Sprint(d.Code, "@", d.At, d.File, " ", d.Text))
	}
	return strings.Join(out, "; ")
}

// P19.1
func TestOf(t *testing.T) {
	for _, x := range [][3]string{
		{"any", "any", ""}, {"unknown", "unknown", ""}, {"never", "never", ""}, {"null", "null", ""}, {"number", "number", ""}, {"string", "string", ""}, {"true", "true", ""}, {"false", "false", ""}, {"boolean", "true | false", ""},
		{"5", "5", ""}, {`"a\n"`, `"a\n"`, ""}, {"T[]", "T[]", ""}, {"[T, U, 1]", "[T, U, 1]", ""}, {"[]", "[]", ""}, {"keyof T", "keyof T", ""}, {"T[U]", "T[U]", ""}, {"(a: T, b: U) => null", "(T, U) => null", ""}, {"() => T", "() => T", ""},
		{"Box<number>", "box'<number>", ""}, {"Two<T, Box<U>>", "two<T, box'<U>>", ""}, {"one", "one''", ""},
		{"Box", "any", "7@0 Box"}, {"Box<1, 2>", "any", "7@0 Box"}, {"one<1>", "any", "7@0 one"}, {"T<1>", "any", "7@0 T"}, {"U<1>", "any", "7@0 U"}, {"{ b: 1; } & { a: 2; }", "{ a: 2; b: 1; }", ""}, {"Odd", "any", "7@0 Odd"}, {"nobody", "any", "8@0 nobody"}, {"nobody<T>", "any", "8@0 nobody"}, {"[nobody, V]", "[any, any]", "8@1 nobody; 8@9 V"},
		{"nobody<Box, V<W>>", "any", "7@7 Box; 8@14 W; 8@12 V; 8@0 nobody"}, {"T<nobody>", "any", "8@2 nobody; 7@0 T"}, {"Box<nobody>", "box'<any>", "8@4 nobody"},
		{"{ }", "{ }", ""}, {"{ b: T; mut a?: U; mut c: null; d?: null; }", "{ mut a?: U; b: T; mut c: null; d?: null; }", ""}, {"{ a: 1; a: 2; }", "{ a: 1; }", "9@8 a"}, {"{ a: T; b: nobody; a: V; mut b: U; }", "{ a: T; b: any; }", "8@11 nobody; 9@19 a; 9@25 b"},
		{"number | 5 | null", "null | number", ""}, {"(T | U) | T", "T | U", ""}, {"never | any | 1", "any", ""}, {"nobody | 1", "any", "8@0 nobody"},
		{"{ a: number; } & { b?: null; }", "{ a: number; b?: null; }", ""}, {"{ b: 1; a: 2; } & { a: 2; c: 3; } & { b: 1; }", "{ a: 2; b: 1; c: 3; }", ""}, {"{ a: 1; } & { a: 2; }", "any", "10@0 "}, {"{ a: 1; } & { a?: 1; }", "any", "10@0 "}, {"{ a: 1 | 2; } & { a: 2 | 1; }", "{ a: 1 | 2; }", ""},
		{"number & null", "any", "10@0 "}, {"(() => 1) & ((a: T) => 2)", "(() => 1) & ((T) => 2)", ""}, {"(() => 1) & (() => 1)", "(() => 1) & (() => 1)", ""}, {"(() => 1) & { }", "any", "10@0 "}, {"{ } & { }", "{ }", ""}, {"{ } & one", "any", "10@0 "}, {"T & U", "any", "10@0 "}, {"nobody & V", "any", "8@0 nobody; 8@9 V; 10@0 "},
		{"((() => 1) & (() => 2)) & (() => 3)", "any", "10@0 "}, {"null | (1 & 2)", "any", "10@8 "}, {"{ a: 1; a: 2; } & { a: 1; }", "{ a: 1; }", "9@8 a"},
		{"{ [K in T]: K }", "{ [K in T]: K }", ""}, {"{ mut [K in keyof T]?: T[K] }", "{ mut [K in keyof T]?: T[K] }", ""}, {"{ [K in K]: K }", "{ [K in any]: K }", "8@8 K"}, {"{ [one in T]: one }", "{ [one in T]: K }", "special"}, {"{ [K in T]: Box<K, K> }", "{ [K in T]: any }", "7@12 Box"}, {"[{ [K in T]: K }, K]", "[{ [K in T]: K }, any]", "8@18 K"},
		{"T extends (infer V)[] ? V : never", "T = T extends (infer V)[] ? V : never", ""}, {"1 extends T ? T : U", "1 extends T ? T : U", ""}, {"(T | never) extends 1 ? 2 : 3", "T = T extends 1 ? 2 : 3", ""}, {"T[] extends 1 ? 2 : 3", "T[] extends 1 ? 2 : 3", ""}, {"one extends 1 ? 2 : 3", "one'' extends 1 ? 2 : 3", ""},
		{"T extends [infer V, infer W] ? [V, W] : V", "T = T extends [infer V, infer W] ? [V, W] : any", "8@40 V"}, {"infer V", "any", "11@0 V"}, {"[infer V, 1]", "[any, 1]", "11@1 V"}, {"infer V extends 1 ? V : infer V", "any extends 1 ? any : any", "11@0 V; 8@20 V; 11@24 V"},
		{"1 extends (T extends infer V ? V : infer W) ? [V, W] : 1", "1 extends (T = T extends infer V ? V : infer W) ? [any, W] : 1", "8@47 V"}, {"1 extends [infer V, 2 extends infer W ? infer X : W] ? [V, W, X] : V", "1 extends [infer V, 2 extends infer W ? infer X : any] ? [V, any, X] : any", "8@50 W; 8@59 W; 8@67 V"},
		{"1 extends infer V ? 2 extends infer W ? [V, W] : V : 3", "1 extends infer V ? 2 extends infer W ? [V, W] : V : 3", ""}, {"1 extends infer V ? V extends 2 ? V : 3 : 4", "1 extends infer V ? V = V extends 2 ? V : 3 : 4", ""}, {"1 extends infer T ? T : T", "1 extends infer T ? T : T", ""}, {"1 extends nobody<infer V> ? V : 2", "1 extends any ? V : 2", "8@10 nobody"},
		{"V extends infer V ? V : V", "any extends infer V ? V : any", "8@0 V; 8@24 V"}, {"1 extends any | infer V ? V : 2", "1 extends any | infer V ? V : 2", ""}, {"{ [K in T]: K extends 1 ? 2 : 3 }", "{ [K in T]: K = K extends 1 ? 2 : 3 }", ""}, {"1 extends { a: infer V; a: infer W; } ? [V, W] : 0", "1 extends { a: infer V; } ? [V, W] : 0", "9@24 a"},
		{"nobody extends V ? W : X", "any extends any ? any : any", "8@0 nobody; 8@15 V; 8@19 W; 8@23 X"}, {"(a: nobody, b: V) => W", "(any, any) => any", "8@4 nobody; 8@15 V; 8@21 W"}, {"T[nobody][]", "T[any][]", "8@2 nobody"}, {"(1 | 2)[]", "(1 | 2)[]", ""},
	} {
		got, diags, e := texpr.Of(scope, read(t, x[0]))
		want := testkit.T(x[1])
		if x[2] == "special" {
			want.Parts[1] = api.Type{Kind: api.KVar, Text: "one"}
			x[2] = ""
		}
		if e != api.OK || types.Order(got, want) != 0 || told(diags) != x[2] {
			t.Errorf("%s: %s %d, not %s\n%s, not %s", x[0], testkit.Text(got), e, x[1], told(diags), x[2])
		}
		if !types.Formed(got) {
			t.Errorf("%s: not formed", x[0])
		}
		for _, v := range types.Free(got) {
			if len(diags) == 0 && !slices.Contains(scope.Vars, v) {
				t.Errorf("%s: %s is free", x[0], v)
			}
		}
	}
}

// P19.1, P19.2, P19.3: what is refused.
func TestForm(t *testing.T) {
	good, routine := read(t, "null"), function(t, "function f(): null { }")
	refused := func(s texpr.Scope, n, v, f api.Node) {
		t.Helper()
		if got, d, e := texpr.Of(s, n); got.Kind != 0 || len(d) != 0 || e != api.ErrForm {
			t.Error(got, d, e)
		}
		if got, d, e := texpr.Vars(s, v); len(got) != 0 || len(d) != 0 || e != api.ErrForm {
			t.Error(got, d, e)
		}
		if got, d, e := texpr.Signature(s, f); got.Kind != 0 || len(d) != 0 || e != api.ErrForm {
			t.Error(got, d, e)
		}
	}
	v := api.Node{Kind: api.DVar, Text: "T"}
	for _, s := range []texpr.Scope{{Names: []texpr.Name{{Text: "a"}}}, {Names: []texpr.Name{{"a", "any", 0}}}, {Names: []texpr.Name{{"a", "a", 0}, {"a", "1", 0}}}, {Vars: []string{""}}, {Vars: []string{"A", "number"}}, {Vars: []string{"A b"}}} {
		refused(s, good, v, routine)
	}
	refused(texpr.Scope{}, api.Node{}, api.Node{}, api.Node{})
	refused(texpr.Scope{}, api.Node{Kind: api.EName, Text: "a"}, good, good)
	refused(texpr.Scope{}, api.Node{Kind: api.YArray}, api.Node{Kind: api.DVar, Text: "any"}, api.Node{Kind: api.DFunc, Text: "f"})
	refused(texpr.Scope{}, api.Node{Kind: api.YUnion, Parts: []api.Node{good}}, api.Node{Kind: api.DVar, Text: "T", N: 1}, api.Node{Kind: api.DConst, Text: "f", Parts: []api.Node{good, {Kind: api.ENull}}})
	refused(texpr.Scope{}, api.Node{}, api.Node{Kind: api.DVar, Text: "T", Parts: []api.Node{good}}, api.Node{Kind: api.EFunc, Parts: []api.Node{good}})
	refused(texpr.Scope{}, api.Node{}, api.Node{Kind: api.DVar, Text: "T", N: 1, M: 1, Parts: []api.Node{good}}, api.Node{Kind: api.YFunc, Parts: []api.Node{good}})
	refused(texpr.Scope{}, api.Node{}, api.Node{Kind: api.DVar, Text: "T", N: 1, Parts: []api.Node{{Kind: api.YArray}}}, api.Node{Kind: api.DMethod, Text: "m", N: 1, Parts: routine.Parts})
	refused(texpr.Scope{}, api.Node{}, api.Node{Kind: api.DVar, Text: "T", N: 2, Parts: []api.Node{good, good}}, api.Node{Kind: api.DFunc, Text: "f", M: 2, Parts: routine.Parts})
	if _, _, e := texpr.Vars(texpr.Scope{}, v, api.Node{}); e != api.ErrForm {
		t.Error(e)
	}
	if got, d, e := texpr.Of(texpr.Scope{Names: []texpr.Name{{"no name", "a'", -5}}, Vars: []string{"A'"}}, good); got.Kind != api.KNull || len(d) != 0 || e != api.OK {
		t.Error(got, d, e)
	}
}

// function reads the one declaration of a file.
func function(t *testing.T, s string) api.Node {
	t.Helper()
	n, diags, e := pfile.File(s)
	if len(diags) != 0 || e != api.OK || len(n.Parts) != 1 {
		t.Fatal(s, diags)
	}
	return n.Parts[0]
}

func vars(l []api.Var) string {
	return strings.TrimSuffix(testkit.Text(api.Type{Kind: api.KFunc, Vars: l, Parts: []api.Type{{Kind: api.KNull}}}), "() => null")
}

// P19.2
func TestVars(t *testing.T) {
	for _, x := range [][3]string{
		{"A, B", "<A, B>", ""}, {"A extends B, B extends A[]", "<A extends B, B extends A[]>", ""}, {"A extends A", "<A extends A>", ""}, {"A extends T, B extends Box<A>", "<A extends T, B extends box'<A>>", ""},
		{"A, A", "<A>", "9@10 A"}, {"A extends nobody, B, A extends V, B extends infer W, C extends infer X", "<A extends any, B, C extends any>", "8@17 nobody; 9@28 A; 9@41 B; 11@70 X"}, {"T extends T<1>", "<T extends any>", "7@17 T"}, {"one extends one<1>", "<one extends any>", "7@19 one"},
	} {
		n := function(t, "type A<"+x[0]+"> = B;")
		got, diags, e := texpr.Vars(scope, n.Parts[:n.N]...)
		if e != api.OK || vars(got) != x[1] || told(diags) != x[2] {
			t.Errorf("%s: %s %d, not %s\n%s, not %s", x[0], vars(got), e, x[1], told(diags), x[2])
		}
	}
	if got, diags, e := texpr.Vars(scope); len(got) != 0 || len(diags) != 0 || e != api.OK {
		t.Error(got, diags, e)
	}
}

// P19.3
func TestSignature(t *testing.T) {
	for _, x := range [][3]string{
		{"function f(): null { }", "() => null", ""}, {"function f<A, B extends A>(a: A, b: B): T { return nobody; }", "<A, B extends A>(A, B) => T", ""}, {"function f<A>(a: A): A[];", "<A>(A) => A[]", ""}, {"export function f<T>(a: T): U { }", "<T>(T) => U", ""},
		{"function f<A extends nobody, A>(a: V, b: A, c: W): X { }", "<A extends any>(any, A, any) => any", "8@21 nobody; 9@29 A; 8@35 V; 8@47 W; 8@51 X"}, {"function f(a: infer A): A { }", "(any) => any", "11@14 A; 8@24 A"}, {"function f<A>(a: A extends 1 ? 2 : 3): A { }", "<A>(A = A extends 1 ? 2 : 3) => A", ""},
	} {
		got, diags, e := texpr.Signature(scope, function(t, x[0]))
		if e != api.OK || types.Order(got, testkit.T(x[1])) != 0 || told(diags) != x[2] {
			t.Errorf("%s: %s %d, not %s\n%s, not %s", x[0], testkit.Text(got), e, x[1], told(diags), x[2])
		}
	}
	n, _, _ := pexpr.Expr("(a: T, b: number): U => { return 1; }")
	if got, diags, e := texpr.Signature(scope, n); testkit.Text(got) != "(T, number) => U" || len(diags) != 0 || e != api.OK {
		t.Error(got, diags, e)
	}
	c := function(t, "class C() { m(a: T): nobody { } }")
	if got, diags, e := texpr.Signature(scope, c.Parts[0]); testkit.Text(got) != "(T) => any" || told(diags) != "8@21 nobody" || e != api.OK {
		t.Error(got, diags, e)
	}
	if _, _, e := texpr.Signature(scope, c); e != api.ErrForm {
		t.Error(e)
	}
}

// P19.1, P19.2, P19.3: types that are too large.
func TestLarge(t *testing.T) {
	tuple := func(count int) string {
		return "[" + strings.TrimSuffix(strings.Repeat("1,", count), ",") + "]"
	}
	for _, x := range []struct{ s, kind, diags string }{
		{tuple(4095), "tuple", ""}, {tuple(4096), "any", "12@0 "}, {"[" + tuple(4096) + ", nobody]", "any", "8@8196 nobody; 12@0 "}, {"(" + tuple(4096) + ")", "any", "12@1 "}, {"(" + tuple(4096) + ")[]", "any", "12@0 "}, {"1 | " + tuple(4093), "union", ""}, {"1 | " + tuple(4094), "any", "12@0 "},
	} {
		got, diags, e := texpr.Of(scope, read(t, x.s))
		if e != api.OK || told(diags) != x.diags || (got.Kind == api.KAny) != (x.kind == "any") || !types.Formed(got) {
			t.Error(x.s[:10], got.Kind, told(diags), e)
		}
	}
	n := function(t, "type A<A extends "+tuple(4096)+", B extends nobody, C extends "+tuple(4095)+"> = B;")
	if got, diags, e := texpr.Vars(scope, n.Parts[:n.N]...); told(diags) != "12@7 ; 8@8222 nobody" || e != api.OK || len(got) != 3 || got[0].Bound[0].Kind != api.KAny || got[2].Bound[0].Kind != api.KTuple {
		t.Error(told(diags), e)
	}
	f := function(t, "function f(a: "+tuple(2046)+"): "+tuple(2047)+" { }")
	if got, diags, e := texpr.Signature(scope, f); got.Kind != api.KFunc || len(diags) != 0 || e != api.OK || !types.Formed(got) {
		t.Error(told(diags), e)
	}
	f = function(t, "function f(a: nobody, b: "+tuple(2046)+"): "+tuple(2048)+" { }")
	if got, diags, e := texpr.Signature(scope, f); got.Kind != api.KAny || told(diags) != "8@14 nobody; 12@0 " || e != api.OK {
		t.Error(told(diags), e)
	}
}
