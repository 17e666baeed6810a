package tdecl_test

import (
	"fmt"
	"strings"
	"testing"

	"plinth/api"
	"plinth/bind"
	"plinth/pfile"
	"plinth/relate"
	"plinth/tdecl"
	"plinth/testkit"
)

// units reads files, "name: text" each.
func units(t *testing.T, files ...string) []bind.Unit {
	t.Helper()
	var l []bind.Unit
	for _, f := range files {
		name, s, _ := strings.Cut(f, ": ")
		n, diags, e := pfile.File(s)
		if len(diags) != 0 || e != api.OK {
			t.Fatal(s, diags, e)
		}
		l = append(l, bind.Unit{Name: name, Node: n})
	}
	return l
}

func told(l []api.Diag, file string) string {
	var out []string
	for _, d := range l {
		s := fmt.Sprint(d.Code, "@", d.At)
		if d.Text != "" {
			s += " " + d.Text
		}
		if d.File != file {
			s += "?"
		}
		out = append(out, s)
	}
	return strings.Join(out, "; ")
}

// P21.2: what is wrong in one file alone.
func TestCheck(t *testing.T) {
	for _, x := range [][2]string{
		{"", ""},
		// the examples of the whole and of the chapter
		{"const x: number = null;", "24@18"},
		{"interface A { a: number; } interface A { b: null; } const x: A = { a: 1, b: null };", ""},
		{"function f(x: null | number): number { if (x === null) { return 0; } return x + 1; }", ""},
		{"type Part<T> = { [K in keyof T]?: T[K] }; const p: Part<{ a: number; b: null; }> = { a: 1 };", ""},
		{`type El<T> = T extends (infer V)[] ? V : never; const e: El<number[] | string[]> = "x";`, ""},
		{"type El<T> = T extends (infer V)[] ? V : never; const e: El<number[] | string[]> = true;", "24@83"},
		{"class C(x: number) { mut a: number = x; } const c: C = new C(1); function f(): null { c.a = 2; c.b; }", "22@95 b"},
		{"function id<T>(x: T): T { return x; } const s: string = id(5);", "24@56"},
		{"interface A { a: number; } interface B extends A { b: null; } const x: B = { a: 1, b: null };", ""},
		{"interface C extends C { }", "15@20"},
		{`class P(x: number) { mut a: number = x; get(): number { return this.a; } } class Q() extends P(1) { get(): string { return "q"; } }`, "24@93"},
		{"type L = { next: L | null; }; const l: L = { next: { next: null } };", ""},
		{"type T = T;", "27@0"},
		{"type U = number | U;", "27@0"},
		{`function f(x: number): number; function f(x: string): string; function f(x: unknown): never { throw x; } const s: string = f("a");`, ""},
		// types
		{"type A<T extends nobody, T> = Who | T;", "8@17 nobody; 9@25 T; 8@30 Who"},
		{"type A<T> = T[]; const x: A = 1; const y: A<number, null> = 1; const z: A<number> = [1, 2];", "7@26 A; 7@42 A"},
		{"type A = infer V;", "11@9 V"}, {"type A = number & null;", "10@9"}, {"type A<T> = T extends 1 ? A<T> : 2;", ""}, {"type A<T> = A<T[]>;", "27@0"}, {"type A<T extends B> = T; type B = B;", "27@25"}, {"type A<T> = { a: A<T[]>; };", ""},
		{"export type A = nobody; export type A = who;", "8@16 nobody; 3@24 A"},
		// interfaces
		{"interface A<T> { a: T; } interface A<U> { b: U; nobody: nobody; } const x: A<1> = { a: 1 };", "13@25 A"},
		{"interface A<T> { a: T; } interface A<T> { b: T; } const x: A<1> = { a: 1, b: 1 };", ""}, {"interface A<T> { } interface A<T extends nobody> { } interface A<T, U> { }", "8@41 nobody; 13@53 A"}, {"interface A<T> { } interface A { }", "13@19 A"},
		{"interface A { a: number; a: string; } interface A { b: null; a: nobody; } const x: A = { a: 1, b: null };", "9@25 a; 9@61 a; 8@64 nobody"},
		{"interface A extends nobody { }", "8@20 nobody"}, {"interface A extends B { } type B = { };", "14@20"}, {"interface A<T> extends T { }", "14@23"}, {"interface A extends B<1> { } interface B { }", "7@20 B"}, {"interface A extends C { } class C() { }", ""},
		{"interface A extends B { } interface B extends A { }", "15@20; 15@46"}, {"interface A extends B { } interface B extends C { } interface C extends B { }", "15@46; 15@72"}, {"interface A extends X { } interface X extends B { } interface B extends C { } interface C extends B { }", "15@72; 15@98"}, {"interface A extends A, B { a: 1; } interface B { b: 2; } const x: A = { a: 1, b: 2 };", "15@20"},
		{"interface A { a: number; } interface B extends A { a: 5; } interface C extends A { a: string; } interface D extends A { a?: number; }", "24@79; 24@116"}, {"interface A<T> { a: T; } interface B<T> extends A<T[]> { b: T; } const x: B<1> = { a: [1], b: 1 };", ""},
		{"interface A<T> { a: T; } interface B<T extends number> extends A<number> { a: T; } interface C<T> extends A<number> { a: T; }", "24@106"}, {"interface A { a: 1; } interface B { a: 2; b: 3; } interface C extends A, B { } const x: C = { a: 1, b: 3 };", "24@73"},
		{"interface B { b: 1; } interface A { a: 1; } interface A extends B { c: 1; } const x: A = { a: 1, b: 1, c: 1 }; const y: A = { a: 1, c: 1 };", "24@124"}, {"interface A<T> { a: T; } interface B<T> extends A<T> { } interface B<U> extends nobody { } const x: B<1> = { a: 1 };", "13@57 B"},
		{"interface A { m: () => A; } interface B extends A { m: () => B; }", ""}, {"interface A extends L { } type L = L; interface L2 extends A { }", "14@20; 27@26"}, {"interface A { l: L; } type L = L; interface B extends A { l: 1; }", "27@22; 27@54"},
		{"type Num = 5; interface Base { a: number; } interface A<T extends Num> extends Base { a: T; }", ""}, {"type Num = number; function f<T extends Num>(x: T): T { return x; }", ""}, {"type Num = number; function f<T extends Num>(x: T): T { return x; } const a: number = f(5); const b: unknown = f(null);", "21@111"}, {"interface T { } interface A<T> extends T { }", "14@39"},
		// classes
		{"class C(x: number | null) { a: number = x === null ? 0 : x; }", ""}, {"class C() { a: number = 1; } const x: { a: number; } = new C();", ""},
		{"class C(a: nobody) { }", "8@11 nobody"}, {"class C(a: number, a: string) { b: string = a; }", ""}, {"class C() extends nobody() { }", "8@18 nobody"}, {"interface I { } class C() extends I() { }", "14@34"}, {"type A = { }; class C() extends A(nobody) { }", "14@32"}, {"class C() extends C() { }", "15@18"}, {"class C() extends D() { } class D() extends C() { }", "15@18; 15@44"},
		{"class P(a: number) { } class Q() extends P() { }", "21@41"}, {"class P(a: number) { } class Q() extends P(nobody, 1) { }", "21@41"}, {"class P(a: number, b: string) { } class Q(a: string, n: number) extends P(a, n) { }", "24@74; 24@77"}, {"class P(a: number) { } class Q(a: string, a: number) extends P(a) { }", ""}, {"class P(a: number) { } class Q() extends P(this) { }", "24@43; 26@43"},
		{"class P() { a: number = 1; } class Q() extends P() { a: 5 = 5; } class R() extends P() { a: string = \"\"; } class S() extends P() { mut a: number = 1; }", "24@83"}, {"class P() { mut a: number = 1; } class Q() extends P() { a: number = 1; }", "24@51"}, {"class P() { a: number = 1; b: null = null; } class Q() extends P() { c: null = null; } const x: { a: number; b: null; c: null; } = new Q();", ""},
		{"interface I { a: number; } class C() implements I { a: 5 = 5; } class D() implements I { } class E() implements nobody, I<1> { }", "24@85; 8@112 nobody; 7@120 I"}, {"type T = { a: number; } | null; class C() implements T { a: number = 1; } class D() implements L { } type L = L;", "27@95; 27@101"},
		{"class C(x: number) { a: string = x; b: number = x; mut c: nobody = x; a: number = nobody; m(): number { return x; } m(): who { return y; } }", "24@33; 8@58 nobody; 9@70 a; 20@82 nobody; 24@82; 20@111 x; 24@111; 9@116 m; 8@121 who; 20@134 y"},
		{"class C() { a: number = this.b; m(): number { return this.a; } n(): C { return this; } o(x: number): null { this.a = x; return; } p(): number { } }", "24@24; 26@24; 25@108 a; 28@142"},
		{"class C() { mut a: number = 1; m(): null { this.a = 2; this.m = (): null => { }; } }", "25@55 m"}, {"const C: number = 1; class C() { }", "3@21 C"}, {"class A() { } class A() { a: nobody = who; }", "3@14 A"}, {"class C() { a: number = 1; f(): () => number { return (): number => { return this.a; }; } }", ""},
		{"class C(x: number) { } const c: C = new C(\"a\"); const d: C = new C(); const e: C = C;", "24@42; 21@61; 24@61; 20@83 C; 24@83"},
		// functions
		{"function f(): nobody { return who; }", "8@14 nobody; 20@30 who"}, {"function f(): number { return x; } const x: number = f();", ""}, {"function f<T extends number>(x: T): number { return x + 1; }", "23@52 +; 24@52"}, {"function f<T extends number>(x: T): number { return x; }", ""}, {"function f(): number { }", "28@21"},
		{"function f(x: number): number; function f(x: string): string { return x; }", "24@0"}, {"function f(x: nobody): number; function f(x: who): number { return 1; } const x: 5 = f(1);", "8@14 nobody; 8@45 who; 24@85"}, {"function f(): number;", "4@0 f"}, {"function f<T>(x: T): T; function f<T>(x: T): T { return x; } function g<T>(x: T): T; function g<U>(x: U): U { return x; }", "24@61"},
		{"function f(x: number): number; function f(x: string): string; function f(x: number | string): never { throw x; } const a: number = f(1); const b: string = f(1); const c: null = f(null);", "24@155; 21@177; 24@177"}, {"function f(): L; function f(): L { throw 1; } type L = L;", "27@46"}, {"function f(): L; function f(): number { throw 1; } type L = L;", "27@0; 27@51"},
		{"function f(): null { const g = (x: number): number => { return f; }; }", "24@63"}, {"function f(x: number): null { if (x) { } while (x) { } const y: 1 = (x) ? 1 : 2; }", "23@30 if; 23@41 if; 23@68 if; 24@78"},
		// constants
		{"const a: number = b; const b: string = a;", "24@18; 24@39"}, {"const a: nobody = who;", "8@9 nobody; 20@18 who"}, {"const a: number = a;", ""}, {"const a: number = 1; const a: string = nobody;", "3@21 a"}, {"const a: { mut b: number; } = { b: 1 }; function f(): null { a.b = 2; a = a; }", "25@70 a"}, {"const x: number = this;", "24@18; 26@18"},
		{"import { x } from \"nowhere\"; const y: x = x;", "5@0 nowhere; 8@38 x; 20@42 x"}, {"interface x { } const x: x = { };", ""}, {"const a: L = 1; type L = L;", "27@13; 27@16"},
	} {
		diags, e := tdecl.Check("f", units(t, "f: "+x[0])...)
		if e != api.OK || told(diags, "f") != x[1] {
			t.Errorf("%s\n%s %d, not\n%s", x[0], told(diags, "f"), e, x[1])
		}
	}
}

var project = []string{
	`b: import { A, f } from "a"; import { Deep } from "c"; export interface B extends A { b: Deep; } interface A2 { a: string; } export class K(x: A) { k: A = x; } const here: B = { a: 1, b: f(1) };`,
	`a: export interface A { a: number; } interface Deep { wrong: null; } export function f(x: number): { d: A; } { return { d: { a: x } }; } export type Own<T extends A> = T[];`,
	`c: import { A } from "a"; export interface Deep { d: A; } type A2<T> = T; const z: nobody = 1;`,
	`d: import { K, B } from "b"; import { Own, q } from "a"; const k: K = new K({ a: 1 }); const n: number = k.k.a; const s: string = k.k.a; const o: Own<B> = []; class L() extends K({ a: null }) { } interface A { x: number; } const a: A = { x: 1 };`,
	`e: const alone: number = null;`,
}

// P21.2: files that import from one another.
func TestProject(t *testing.T) {
	for name, want := range map[string]string{"a": "", "b": "", "c": "8@80 nobody", "d": "6@40 q; 24@127; 24@181", "e": "24@22"} {
		l := units(t, project...)
		for i := range l {
			l[0], l[i] = l[i], l[0]
			diags, e := tdecl.Check(name, l...)
			if e != api.OK || told(diags, name) != want {
				t.Errorf("%s: %s %d, not %s", name, told(diags, name), e, want)
			}
		}
	}
}

func world(w relate.World) string {
	var out []string
	for _, d := range w.Decls {
		vars := api.Type{Kind: api.KFunc, Vars: d.Vars, Parts: []api.Type{{Kind: api.KNull}}}
		out = append(out, d.Name+strings.TrimSuffix(testkit.Text(vars), "() => null")+" = "+testkit.Text(d.Type))
	}
	return strings.Join(out, "\n")
}

// P21.1
func TestWorld(t *testing.T) {
	for name, want := range map[string]string{
		"a": "A = { a: number; }\nDeep = { wrong: null; }\nOwn<T extends A> = T[]",
		"b": "A = { a: number; }\nDeep = { wrong: null; }\nOwn<T extends A> = T[]\nA2' = { a: string; }\nB' = { a: number; b: Deep''; }\nK' = { k: A; }\nA2''<T> = T\nDeep'' = { d: A; }",
		"c": "A = { a: number; }\nDeep = { wrong: null; }\nOwn<T extends A> = T[]\nA2'<T> = T\nDeep' = { d: A; }",
		"e": "",
	} {
		w, e := tdecl.World(name, units(t, project...)...)
		if e != api.OK || world(w) != want || w.Fuel != 2000 || len(w.Vars) != 0 {
			t.Errorf("%s: %d\n%s\nnot\n%s", name, e, world(w), want)
		}
	}
	for _, x := range [][2]string{
		{"interface A<T> { b: T; mut a?: T; } interface A<T> { c: T[]; a: null; }", "A<T> = { mut a?: T; b: T; c: T[]; }"},
		{"interface B extends A<null>, C { mut x: 1; } interface A<T> { x: T; y: T; z: T; } interface C { z: 1; w: 2; }", "A<T> = { x: T; y: T; z: T; }\nB = { w: 2; mut x: 1; y: null; z: null; }\nC = { w: 2; z: 1; }"},
		{"class D() extends C(1) { b: null = null; m(x: number): D { return this; } } class C(q: number) { mut a: C = new C(1); mut b: 1 = 1; a: null = null; m(): null { } }", "C = { mut a: C; mut b: 1; m: () => null; }\nD = { mut a: C; b: null; m: (number) => D; }"},
		{"interface C extends C { a: 1; } interface X extends Y { x: 1; } interface Y extends X { y: 1; } interface Z extends Y { }", "C = { a: 1; }\nX = { x: 1; }\nY = { y: 1; }\nZ = { y: 1; }"},
		{"interface A<T> { f: (x: K) => T; } type K = 1; interface B<K> extends A<K> { } type T<U, V extends U, U> = [U, V];", "A<T> = { f: (K) => T; }\nB<K> = { f: (K) => K; }\nK = 1\nT<U, V extends U> = [U, V]"},
		{"const A: number = 1; interface A<T> { a: T; } type B = A<1>; type C = nobody; type C = 1;", "A<T> = { a: T; }\nB = A<1>\nC = any"},
	} {
		w, e := tdecl.World("f", units(t, "f: "+x[0])...)
		if got := world(w); e != api.OK || strings.NewReplacer("A<>", "A").Replace(got) != x[1] {
			t.Errorf("%s: %d\n%s\nnot\n%s", x[0], e, got, x[1])
		}
	}
}

// P21.1, P21.2: what is refused.
func TestWrong(t *testing.T) {
	refused := func(name string, l []bind.Unit, want api.Errno) {
		t.Helper()
		if w, e := tdecl.World(name, l...); len(w.Decls) != 0 || w.Fuel != 0 || e != want {
			t.Error(w, e)
		}
		if d, e := tdecl.Check(name, l...); len(d) != 0 || e != want {
			t.Error(d, e)
		}
	}
	a := units(t, "a: const x: number = 1;")
	refused("nobody", a, api.ErrNone)
	refused("a", nil, api.ErrNone)
	refused("a", append(a, a...), api.ErrTwice)
	refused("a", append(a, bind.Unit{Name: "b"}), api.ErrForm)
	half := "[" + strings.TrimSuffix(strings.Repeat("1,", 2100), ",") + "]"
	large := "interface A { a: " + half + "; } interface A { b: " + half + "; }"
	refused("a", units(t, "a: "+large), api.ErrLarge)
	refused("b", units(t, "a: "+large, `b: import { x } from "a";`), api.ErrLarge)
	if d, e := tdecl.Check("b", units(t, "a: "+large, "b: const x: null = 1;")...); told(d, "b") != "24@16" || e != api.OK {
		t.Error(d, e)
	}
	wide := "function f(x: number): null; function f(x: " + half + ", y: " + half + "): 1; function f(x: unknown, y: unknown): never { throw 1; } const x: any = f(1, 2, 3); const y: 1 = f(1);"
	if d, e := tdecl.Check("f", units(t, "f: "+wide)...); e != api.OK || !strings.HasPrefix(told(d, "f"), "24@0; 12@29; 24@") {
		t.Error("an overload that is too large makes all of them any", told(d, "f"), e)
	}
	wide = "function f(x: number): null; function f(x: " + half + ", y: " + half + "): null { throw 1; }"
	if d, e := tdecl.Check("f", units(t, "f: "+wide)...); e != api.OK || told(d, "f") != "12@29" {
		t.Error("a function that is too large is not held against its overloads", told(d, "f"), e)
	}
	for _, s := range []string{"interface A<T> { a: [T, T]; } interface B extends A<" + half + "> { b: 1; } const x: B = { b: 1 };"} {
		if w, e := tdecl.World("f", units(t, "f: "+s)...); e != api.OK || testkit.Text(w.Decls[1].Type) != "{ b: 1; }" {
			t.Error("fields that are too large are none", e)
		}
	}
}

// P21.3: what is wrong hangs on the file's own project alone.
func TestWhatFollows(t *testing.T) {
	want, _ := tdecl.Check("d", units(t, project...)...)
	got, e := tdecl.Check("d", units(t, append(project[:4:4], "e: interface A { } export const q: null = 1;", "z: type A = A;")...)...)
	if told(got, "d") != told(want, "d") || e != api.OK {
		t.Error(told(got, "d"), told(want, "d"))
	}
}
