package tstmt_test

import (
	"fmt"
	"slices"
	"strings"
	"testing"

	"plinth/api"
	"plinth/pexpr"
	"plinth/pfile"
	"plinth/relate"
	"plinth/testkit"
	"plinth/texpr"
	"plinth/tstmt"
	"plinth/types"
)

// context has the values "const x: null | number" or "let y: string", a world, classes.
func context(values ...string) tstmt.Context {
	c := tstmt.Context{
		Types: texpr.Scope{Names: []texpr.Name{{Text: "Box", Global: "box", Arity: 1}, {Text: "C", Global: "klass"}, {Text: "Loop", Global: "loop"}}, Vars: []string{"T"}},
		World: relate.World{Fuel: 500, Vars: []api.Var{{Name: "N", Bound: []api.Type{testkit.T("number")}}}, Decls: []relate.Decl{
			{Name: "box", Vars: []api.Var{{Name: "T"}}, Type: testkit.T("{ a: T; }")}, {Name: "klass", Type: testkit.T("{ mut a: number; b: string; }")}, {Name: "loop", Type: testkit.T("loop")}, {Name: "pair", Type: testkit.T("null | { mut a: number; b?: string; }")},
		}},
		Classes: []tstmt.Class{{Name: "C", Global: "klass", Params: []api.Type{testkit.T("number"), testkit.T("string | null")}}, {Name: "D", Global: "klass"}, {Name: "D", Global: "other", Params: []api.Type{testkit.T("null")}}},
		Result:  []api.Type{testkit.T("number")},
	}
	for _, v := range values {
		head, t, _ := strings.Cut(v, ": ")
		word, name, _ := strings.Cut(head, " ")
		c.Values = append(c.Values, tstmt.Value{Name: name, Type: testkit.T(t), Const: word == "const"})
	}
	return c
}

func told(l []api.Diag) string {
	var out []string
	for _, d := range l {
		s := fmt.Sprint(d.Code, "@", d.At, d.File)
		if d.Text != "" {
			s += " " + d.Text
		}
		out = append(out, s)
	}
	return strings.Join(out, "; ")
}

func expr(t *testing.T, s string) api.Node {
	t.Helper()
	n, at, e := pexpr.Expr(s)
	if e != api.OK {
		t.Fatal(s, at)
	}
	return n
}

func block(t *testing.T, s string) api.Node {
	t.Helper()
	n, at, e := pexpr.Block(s)
	if e != api.OK {
		t.Fatal(s, at)
	}
	return n
}

func all() tstmt.Context {
	c := context("const x: null | number", "const n: number", "let m: number", "const s: string", "const b: true | false", "const a: any", "const u: unknown", "const o: { a: 1; b?: string; length: null; }", "const l: number[]", "const p: [1, \"q\"]", "const v: T", "const w: N",
		"const f: (number, null | string) => true", "const g: <A>(A) => A[]", "const h: ((number) => 1) & ((string) => 2)", "const z: never", "const r: box<5>", "const e: { a: 1; } | { a: 2; c: 3; }", "const q: loop", "const k: \"a\" | \"b\"", "const x: string", "const i: any | (infer V)[]",
		"let c: klass", "const d: pair", "let y: null | number", "const bn: true | false | null")
	c.This = []api.Type{testkit.T("klass")}
	return c
}

const seven = `"array" | "boolean" | "function" | "null" | "number" | "object" | "string"`

// P20.1: the types of expressions, and what is wrong in them.
func TestExpr(t *testing.T) {
	c := all()
	for _, x := range [][3]string{
		{"5", "5", ""}, {`"a"`, `"a"`, ""}, {"true", "true", ""}, {"false", "false", ""}, {"null", "null", ""}, {"n", "number", ""}, {"x", "null | number", ""}, {"nobody", "any", "20@0 nobody"}, {"this", "klass", ""},
		{"{ }", "{ }", ""}, {"{ b: 1, a: n }", "{ a: number; b: 1; }", ""}, {"{ a: 1, b: nobody, a: who }", "{ a: 1; b: any; }", "20@11 nobody; 9@19 a"}, {"[]", "[]", ""}, {"[1, s, nobody]", "[1, string, any]", "20@7 nobody"},
		{"o.a", "1", ""}, {"o.b", "null | string", ""}, {"o.length", "null", ""}, {"o.c", "any", "22@0 c"}, {"s.length", "number", ""}, {"l.length", "number", ""}, {"p.length", "number", ""}, {`"ab".length`, "number", ""}, {"n.length", "any", "22@0 length"}, {"s.size", "any", "22@0 size"},
		{"a.b", "any", ""}, {"x.a", "any", "22@0 a"}, {"u.a", "any", "22@0 a"}, {"e.a", "1 | 2", ""}, {"e.c", "any", "22@0 c"}, {"r.a", "5", ""}, {"z.a", "never", ""}, {"v.a", "any", "22@0 a"}, {"nobody.a", "any", "20@0 nobody"}, {"d.a", "any", "22@0 a"}, {"d!.a", "number", ""}, {"d!.b", "null | string", ""}, {"this.a", "number", ""},
		{"l[0]", "null | number", ""}, {"l[n]", "null | number", ""}, {"p[0]", "1", ""}, {"p[1]", `"q"`, ""}, {"p[2]", "null", ""}, {"p[n]", `null | 1 | "q"`, ""}, {`o["a"]`, "1", ""}, {"o[k]", "null | 1 | string", ""}, {`o["c"]`, "any", "22@0"}, {"o[s]", "any", "22@0"}, {"l[s]", "any", "22@0"}, {`l["length"]`, "any", "22@0"},
		{"s[0]", "any", "22@0"}, {"a[nobody]", "any", "20@2 nobody"}, {"a[0]", "any", ""}, {"l[a]", "any", ""}, {"n[a]", "any", ""}, {"e[k]", "any", "22@0"}, {`e["a"]`, "1 | 2", ""}, {"l[x]", "any", "22@0"}, {"l[z]", "never", ""}, {"z[0]", "never", ""}, {"d[n]", "any", "22@0"}, {"nobody[who]", "any", "20@0 nobody; 20@7 who"},
		{"f(1, null)", "true", ""}, {`f("a", 1)`, "true", "24@2; 24@7"}, {"f(1)", "any", "21@0"}, {"f(1, null, nobody)", "any", "20@11 nobody; 21@0"}, {"g(5)", "5[]", ""}, {"g()", "any", "21@0"}, {"g(nobody)", "any[]", "20@2 nobody"}, {"h(1)", "1", ""}, {`h("a")`, "2", ""}, {"h(null)", "any", "21@0"}, {"a(1, nobody)", "any", "20@5 nobody"}, {"n(1)", "any", "21@0"},
		{"u()", "any", "21@0"}, {"nobody(who)", "any", "20@0 nobody; 20@7 who"}, {"z()", "any", "21@0"}, {"f({ }, b ? null : 1)", "true", "24@2; 24@18"},
		{`new C(1, "a")`, "klass", ""}, {"new C(s, 1)", "klass", "24@6; 24@9"}, {"new C(nobody)", "any", "20@6 nobody; 21@0"}, {"new D()", "klass", ""}, {"new D(1)", "any", "21@0"}, {"new Nobody(who)", "any", "20@11 who; 29@0 Nobody"}, {"new Box()", "any", "29@0 Box"},
		{"-n", "number", ""}, {"-5", "number", ""}, {"-a", "number", ""}, {"-z", "number", ""}, {"-s", "any", "23@0 -"}, {"-x", "any", "23@0 -"}, {"-nobody", "number", "20@1 nobody"}, {"!b", "true | false", ""}, {"!true", "true | false", ""}, {"!a", "true | false", ""}, {"!n", "any", "23@0 !"}, {"!u", "any", "23@0 !"}, {"!w", "any", "23@0 !"}, {"-w", "any", "23@0 -"},
		{"n - 1", "number", ""}, {"n * a", "number", ""}, {"a / a", "number", ""}, {"n % s", "any", "23@0 %"}, {"x - 1", "any", "23@0 -"}, {"1 - nobody", "number", "20@4 nobody"}, {"z * s", "any", "23@0 *"},
		{"1 + 2", "number", ""}, {`"a" + s`, "string", ""}, {"n + a", "any", ""}, {"a + s", "any", ""}, {"a + a", "any", ""}, {"z + z", "number", ""}, {"z + s", "string", ""}, {"z + a", "any", ""}, {"n + s", "any", "23@0 +"}, {"x + 1", "any", "23@0 +"}, {"b + b", "any", "23@0 +"}, {"l + l", "any", "23@0 +"}, {"i + 1", "any", "23@0 +"}, {"nobody + 1", "any", "20@0 nobody"},
		{"n < 1", "true | false", ""}, {"n <= a", "true | false", ""}, {"s > s", "any", "23@0 >"}, {"1 >= null", "any", "23@0 >="}, {"n === s", "true | false", ""}, {"nobody !== u", "true | false", "20@0 nobody"},
		{"b && b", "true | false", ""}, {"b || a", "true | false", ""}, {"n && b", "any", "23@0 &&"}, {"b || n", "any", "23@0 ||"}, {"bn && b", "any", "23@0 &&"}, {"nobody && n", "any", "20@0 nobody; 23@0 &&"},
		{"x !== null && x > 1", "true | false", ""}, {"x === null || x > 1", "true | false", ""}, {"x === null && x > 1", "true | false", "23@14 >"}, {"x !== null || x > 1", "true | false", "23@14 >"}, {"y !== null && y > 1", "true | false", "23@14 >"}, {"y === null || y === 1", "true | false", ""},
		{"b ? 1 : 2", "1 | 2", ""}, {"n ? 1 : nobody", "any", "23@0 if; 20@8 nobody"}, {"(n) ? 1 : 2", "any", "23@0 if"}, {"1 - (s ? 1 : 2)", "number", "23@5 if"}, {"b ? (x ? 1 : 2) : 3", "any", "23@5 if"}, {"-n ? 1 : 2", "any", "23@0 if"}, {"(-s) ? 1 : 2", "1 | 2", "23@1 -"}, {"(q) ? 1 : 2", "1 | 2", "27@0; 27@1"}, {"x === null ? 0 : x", "0 | number", ""}, {"x !== null ? x : 0", "number", ""}, {"x === null ? x : 0", "null | 0", ""}, {"b ? b : 5", "5 | true", ""}, {"a ? 1 : 1", "1", ""}, {"b ? nobody : 1", "any", "20@4 nobody"},
		{"s as number", "number", ""}, {"nobody as Box<1>", "box<1>", "20@0 nobody"}, {"n as Nobody", "any", "8@5 Nobody"}, {"n as T", "T", ""}, {"x!", "number", ""}, {"null!", "never", ""}, {"r!", "{ a: 5; }", ""}, {"d!", "{ mut a: number; b?: string; }", ""}, {"nobody!", "any", "20@0 nobody"}, {"u!", "unknown", ""},
		{"typeof x", seven, ""}, {"typeof nobody", seven, "20@7 nobody"},
		{"(p: T, q: number): number => { return q; }", "(T, number) => number", ""}, {"(): Nobody => { return nobody; }", "() => any", "8@4 Nobody; 20@23 nobody"}, {"(p: string, p: number): number => { return p; }", "(string, number) => number", ""}, {"(): number => { }", "() => number", "28@14"}, {"(): null => { }", "() => null", ""},
		{"(): number => { return s; }", "() => number", "24@23"}, {"(): klass => { return this; }", "() => any", "8@4 klass"}, {"(): C => { return this; }", "() => klass", ""}, {"(): (a: number) => number => { return (a: number): number => { return a + n; }; }", "() => (number) => number", ""}, {"(n: string): string => { return n; }", "(string) => string", ""},
		{"q.a", "any", "27@0"}, {"q.a.b + 1", "any", "27@0"}, {"-q", "number", "27@0"}, {"q + 1", "any", "27@0"}, {"1 + q", "any", "27@0"}, {"q + s", "any", "27@0"}, {"s - q", "any", "23@0 -"}, {"q()", "any", "27@0"}, {"q[q]", "any", "27@0"}, {"q!", "any", "27@0"}, {"f(q, q)", "true", "27@2; 27@5"}, {"g(q)", "any", "27@0"}, {"q ? 1 : 2", "1 | 2", "27@0"}, {"q === null", "true | false", ""},
		{"q === null ? 1 : q", "1 | loop", "27@0"}, {"1 + (q === null ? 1 : 2)", "number", "27@5"}, {"q && b", "true | false", "27@0"}, {"b && q", "true | false", "27@0"}, {"q as number", "number", ""}, {"typeof q === \"null\" ? 1 : 2", "1 | 2", "27@7"}, {"!q ? 1 : 2", "1 | 2", "27@0; 27@1"}, {"{ a: q.a, b: [q.b, -q] }", "{ a: any; b: [any, number]; }", "27@5; 27@14; 27@19"},
	} {
		got, diags, e := tstmt.Expr(c, expr(t, x[0]))
		if e != api.OK || types.Order(got, testkit.T(x[1])) != 0 || told(diags) != x[2] {
			t.Errorf("%s: %s %d, not %s\n%s, not %s", x[0], testkit.Text(got), e, x[1], told(diags), x[2])
		}
		if !types.Formed(got) {
			t.Errorf("%s: not formed", x[0])
		}
		if len(diags) > 0 || got.Kind == api.KNever {
			continue
		}
		if diags, e := tstmt.Fit(c, expr(t, x[0]), got); len(diags) != 0 || e != api.OK {
			t.Errorf("%s doesn't fit its own type: %v", x[0], diags)
		}
	}
	none := context()
	if got, diags, e := tstmt.Expr(none, expr(t, "this")); got.Kind != api.KAny || told(diags) != "26@0" || e != api.OK {
		t.Error(got, diags, e)
	}
	if got, diags, e := tstmt.Expr(none, expr(t, "(): null => { const a: C = this; }")); got.Kind != api.KFunc || told(diags) != "26@27; 24@27" || e != api.OK {
		t.Error(got, diags, e)
	}
}

// P20.1: the contexts behind expressions, told by the type of x in the second and the third part.
func TestBehind(t *testing.T) {
	for _, x := range [][4]string{
		{"const x: null | number", "x === null", "null", "number"}, {"const x: null | number", "x !== null", "number", "null"}, {"let x: null | number", "x === null", "null | number", "null | number"}, {"const x: null | number", "null === x", "null | number", "null | number"},
		{"const x: null | number", "!(x === null)", "number", "null"}, {"const x: null | number", "!!(x === null)", "null", "number"}, {"const x: 1 | 2", "x === 1", "1", "2"}, {"const x: \"a\" | \"b\" | 1", `x !== "a"`, `1 | "b"`, `"a"`}, {"const x: true | null", "x === true", "true", "null"}, {"const x: boolean", "x === false", "false", "true"},
		{"const x: boolean", "x", "true", "false"}, {"const x: boolean", "!x", "false", "true"}, {"let x: boolean", "x", "true | false", "true | false"}, {"const x: any", "x", "any", "any"}, {"const x: null | number | string", `typeof x === "number"`, "number", "null | string"}, {"const x: null | number | string", `typeof x !== "null"`, "number | string", "null"},
		{"const x: unknown", `typeof x === "array"`, "unknown[]", "unknown"}, {"const x: unknown", `typeof x === "nothing"`, "unknown", "unknown"}, {"const x: null | number", `"null" === typeof x`, "null | number", "null | number"}, {"let x: null | number", `typeof x === "null"`, "null | number", "null | number"}, {"const x: null | number", `typeof (x!) === "null"`, "null | number", "null | number"},
		{"const x: null | 1 | 2", "x !== null && x === 1", "1", "null | 1 | 2"}, {"const x: null | 1 | 2", "x === null || x === 1", "null | 1 | 2", "2"}, {"const x: null | 1 | 2", "!(x === null || x === 1)", "2", "null | 1 | 2"}, {"const x: null | 1 | 2", "x === null && true", "null", "null | 1 | 2"}, {"const x: null | 1 | 2", "true && x === null", "null", "null | 1 | 2"},
		{"const x: null | number", "x === n", "null | number", "null | number"}, {"const x: 1 | 2", "x < 2", "1 | 2", "1 | 2"}, {"const x: 1 | 2", "x > 1 && true", "1 | 2", "1 | 2"}, {"const x: null | number", "x === -1", "null | number", "null | number"}, {"const x: null | number", "(x === null) === true", "null | number", "null | number"}, {"const x: null | number", "n === 1", "null | number", "null | number"}, {"const x: null | number", "b ? x === null : true", "null | number", "null | number"},
		{"const x: null | number", "nobody === null", "null | number", "null | number"}, {"const x: null | number", "typeof nobody === \"null\"", "null | number", "null | number"}, {"const x: pair", "x === null", "null", "{ mut a: number; b?: string; }"},
	} {
		c := context(x[0], "const n: number", "const b: true | false")
		got, diags, e := tstmt.Expr(c, expr(t, "("+x[1]+") ? { yes: x } : { no: x }"))
		if strings.Contains(told(diags), "27@") {
			t.Error(x[1], told(diags))
		}
		want := testkit.T("{ yes: " + x[2] + "; } | { no: " + x[3] + "; }")
		if e != api.OK || types.Order(got, want) != 0 {
			t.Errorf("%s, %s: %s, not %s", x[0], x[1], testkit.Text(got), testkit.Text(want))
		}
	}
}

// P20.1: what is wrong in expressions that should fit.
func TestFit(t *testing.T) {
	c := all()
	for _, x := range [][3]string{
		{"5", "number", ""}, {"5", "string", "24@0"}, {"nobody", "number", "20@0 nobody; 24@0"}, {"nobody", "any", "20@0 nobody"}, {"nobody", "unknown", "20@0 nobody"}, {"a", "number", "24@0"}, {"z", "number", ""}, {"x", "number", "24@0"}, {"x", "null | number", ""}, {"r", "{ a: number; }", ""},
		{"{ a: 1 }", "{ mut a: number; }", ""}, {"o", "{ mut a: number; }", "24@0"}, {"{ a: 1 }", "{ a: number; b?: null; }", ""}, {"{ }", "{ a: number; b: number; }", "24@0"}, {"{ a: s }", "{ a: number; b: 1; }", "24@5; 24@0"}, {"{ c: nobody }", "{ a: number; }", "20@5 nobody; 24@0"}, {"{ b: nobody, a: s, b: 1, a: 2, c: who }", "{ a: number; }", "24@16; 20@5 nobody; 9@19 b; 9@25 a; 20@34 who"},
		{"{ b: s, a: s }", "{ a: number; b: number; }", "24@11; 24@5"}, {"{ a: 1, c: 3 }", "{ a: number; }", ""}, {"{ a: null }", "{ a?: number; }", "24@5"}, {"{ a: { b: [1, s] } }", "{ a: { b: number[]; }; }", "24@14"}, {"{ a: 1 }", "null | { mut a: number; }", ""}, {"{ a: s }", "null | { mut a: number; }", "24@5"}, {"{ a: 1 }", "pair", ""}, {"{ a: 1, b: 2 }", "pair", "24@11"},
		{"{ a: 1 }", "box<number>", ""}, {"{ a: s }", "box<number> | 5", "24@5"}, {"{ a: 1 }", "{ a: 1; } | { b: 2; }", ""}, {"{ a: s }", "{ a: number; } | { b: number; }", "24@0"}, {"{ }", "number", "24@0"}, {"{ }", "unknown", ""}, {"{ a: nobody }", "any", "20@5 nobody"}, {"{ a: nobody }", "{ a: any; }", "20@5 nobody"}, {"{ a: 1 }", "T", "24@0"}, {"{ a: 1 }", "never", "24@0"}, {"{ a: 1, a: s }", "any", "9@8 a"},
		{"[1, 2]", "number[]", ""}, {"[1, s, nobody]", "number[]", "24@4; 20@7 nobody; 24@7"}, {"[]", "number[]", ""}, {"[1, 2]", "[number, 2]", ""}, {"[1, s]", "[number, number]", "24@4"}, {"[1]", "[number, number]", "24@0"}, {"[1, 2]", "null | number[]", ""}, {"[1, s]", "null | number[]", "24@0"}, {"[{ a: 1 }]", "{ mut a: number; }[]", ""}, {"[{ a: 1 }]", "null | { mut a: number; }[]", "24@0"}, {"[1]", "unknown", ""}, {"[]", "[]", ""}, {"[1]", "[]", "24@0"},
		{"b ? 1 : 2", "number", ""}, {"b ? 1 : s", "number", "24@8"}, {"b ? { a: 1 } : { a: s }", "{ mut a: number; }", "24@20"}, {"n ? s : s", "number", "23@0 if; 24@4; 24@8"}, {"(n) ? 1 : s", "number", "23@0 if; 24@10"}, {"b ? ((n) ? 1 : 2) : 3", "number", "23@5 if"}, {"x === null ? 0 : x", "number", ""}, {"x === null ? x : 0", "number", "24@13"}, {"nobody ? 1 : 2", "number", "20@0 nobody"},
		{"(p: number): null => { }", "(number) => null", ""}, {"(p: number): null => { }", "(string) => null", "24@0"}, {"f", "(number, null) => true | null", ""}, {"5", "loop", "27@0"}, {"q", "5", "27@0"}, {"q", "loop", ""}, {"{ }", "loop", "27@0"}, {"[nobody]", "loop", "27@0; 20@1 nobody"}, {"{ a: nobody }", "loop", "27@0; 20@5 nobody"}, {"b ? 1 : 2", "loop", "27@4; 27@8"}, {"new C(1, null)", "{ a: number; }", ""}, {"new C(1, null)", "{ a: string; }", "24@0"},
		{"{ a: 1 } as Box<number>", "{ a: number; }", ""}, {"{ a: 1 }!", "{ a: number; }", ""}, {"({ a: 1 }).a", "1", ""},
	} {
		diags, e := tstmt.Fit(c, expr(t, x[0]), testkit.T(x[1]))
		if e != api.OK || told(diags) != x[2] {
			t.Errorf("%s fits %s: %s %d, not %s", x[0], x[1], told(diags), e, x[2])
		}
	}
}

// P20.1: blocks.
func TestBlock(t *testing.T) {
	c := all()
	for _, x := range []struct {
		s     string
		ends  bool
		diags string
	}{
		{"{ }", false, ""}, {"{ const y = 1; y = 2; }", false, "25@15 y"}, {"{ let y = 1; y = 2; }", false, ""}, {"{ let y = 1; y = s; }", false, "24@17"}, {`{ let y = "a"; y = s; }`, false, ""}, {"{ let y = true; y = false; y = b; }", false, ""}, {"{ let y = null; y = 1; }", false, "24@20"}, {"{ let y = [1]; y = [2]; }", false, "24@20"}, {"{ let y = b ? 1 : null; y = 2; y = null; }", false, ""},
		{"{ const y = 1; const z: 1 = y; }", false, ""}, {"{ let y = 1; const z: 1 = y; }", false, "24@26"}, {"{ let y: 1 | 2 = 1; y = 2; y = 3; }", false, "24@31"}, {"{ const y: number = s; const z: number = y; }", false, "24@20"}, {"{ const y: Nobody = s; }", false, "8@11 Nobody"}, {"{ const y = y; const y = nobody; let y = 1; y = 2; }", false, "20@25 nobody; 30@15 y; 30@33 y"},
		{"{ const n = s; const m: string = n; { const n = 1; let n = 2; } }", false, "30@51 n"}, {"{ const j = j; }", false, "20@12 j"}, {"{ { const j = 1; } j; }", false, "20@19 j"}, {"{ nobody = who; n = nobody; m = 5; m = s; }", false, "20@2 nobody; 20@11 who; 25@16 n; 20@20 nobody; 24@39"},
		{"{ c.a = 1; c.a = s; c.b = s; c.z = nobody; }", false, "24@17; 25@20 b; 25@29 z; 20@35 nobody"}, {"{ o.a = 1; a.b = nobody; d.a = 1; d!.a = 1; d!.b = null; }", false, "25@2 a; 20@17 nobody; 25@25 a; 25@44 b"}, {"{ c.a = nobody; a.b = nobody; }", false, "20@8 nobody; 24@8; 20@22 nobody"}, {"{ nobody.a = s; n.a = s; this.a = 1; this.b = 1; u.a = 1; l.length = 1; }", false, "20@2 nobody; 25@16 a; 25@37 b; 25@49 a; 25@58 length"},
		{"{ return 1; }", true, ""}, {"{ return; }", true, "24@2"}, {"{ return s; }", true, "24@9"}, {"{ throw nobody; }", true, "20@8 nobody"}, {"{ nobody; s; }", false, "20@2 nobody"}, {"{ { return 1; } s; }", true, ""}, {"{ return 1; nobody; }", true, "20@12 nobody"},
		{"{ if (b) { return 1; } else { throw 1; } }", true, ""}, {"{ if (b) { return 1; } }", false, ""}, {"{ if (b) { } else { return 1; } }", false, ""}, {"{ while (b) { return 1; } }", false, ""}, {"{ try { return 1; } catch (e) { return 2; } }", true, ""}, {"{ try { return 1; } catch (e) { } }", false, ""}, {"{ try { } catch (e) { return 1; } }", false, ""},
		{"{ if (n) { nobody; } else { who; } }", false, "23@2 if; 20@11 nobody; 20@28 who"}, {"{ while (s) { nobody; } }", false, "23@2 if; 20@14 nobody"}, {"{ if (nobody) { } while (a) { } }", false, "20@6 nobody"}, {"{ try { nobody; } catch (e) { e + 1; e = 2; typeof e; } }", false, "20@8 nobody; 23@30 +; 25@37 e"}, {"{ try { } catch (j) { const j = 1; } j; }", false, "20@37 j"},
		{"{ if (x === null) { return 0; } return x + 1; }", true, ""}, {"{ if (x === null) { x + 1; } else { x + 1; } x + 1; }", false, "23@20 +; 23@45 +"}, {"{ if (x !== null) { x + 1; } else { return 0; } x + 1; }", false, ""}, {"{ if (x !== null) { return x; } else { } x + 1; }", false, "23@41 +"}, {"{ if (x === null) { throw 1; } else { } return x; }", true, ""}, {"{ if (x === null) { return 1; } else { return x; } return x; }", true, "24@58"},
		{"{ if (y === null) { return 0; } return y; }", true, "24@39"}, {"{ while (x !== null) { x + 1; } x + 1; }", false, "23@32 +"}, {"{ if (x === null) { return 0; } x + 1; if (b) { x + 1; } const f = (): number => { return x; }; }", false, ""}, {"{ { if (x === null) { return 0; } x + 1; } x + 1; }", false, "23@43 +"}, {"{ if (x === null) { while (b) { return 1; } } x + 1; }", false, "23@46 +"}, {"{ const j: null | 1 = 1; if (j === null) { return 0; } return j; }", true, ""},
		{"{ if (q === null) { return 1; } q === null; }", false, "27@6"}, {"{ if (q) { } if (q) { } }", false, "27@2; 27@6; 27@13; 27@17"}, {"{ while (q) { } }", false, "27@2; 27@9"}, {"{ if (!n) { } while (n + s) { } }", false, "23@6 !; 23@21 +"}, {"{ if (b) { while (x) { if (n) { } } } else { if (s) { } } }", false, "23@11 if; 23@23 if; 23@45 if"}, {"{ return q; }", true, "27@9"}, {"{ q.a = 1; }", false, "27@2"}, {"{ m = q; }", false, "27@6"}, {"{ const f = (j: number): string => { return j; }; f(1).length; }", false, "24@44"}, {"{ const f = (m: number): null => { m = 1; return; }; }", false, "25@35 m"},
		{"{ e.a = nobody; }", false, "25@2 a; 20@8 nobody"}, {"{ z.a = nobody; }", false, ""}, {"{ if (x === null) { const x = 5; return x; } x + 1; }", false, ""}, {"{ (m) = s; (c.a) = s; }", false, "24@8; 24@19"},
	} {
		ends, diags, e := tstmt.Block(c, block(t, x.s))
		if e != api.OK || ends != x.ends || told(diags) != x.diags {
			t.Errorf("%s: %t %d\n%s, not %s", x.s, ends, e, told(diags), x.diags)
		}
	}
	none := context()
	none.Result = nil
	if ends, diags, e := tstmt.Block(none, block(t, "{ return nobody; return; }")); !ends || told(diags) != "31@2; 31@17" || e != api.OK {
		t.Error(ends, told(diags), e)
	}
	none.Result = []api.Type{testkit.T("loop")}
	if _, diags, e := tstmt.Block(none, block(t, "{ return; }")); told(diags) != "27@2" || e != api.OK {
		t.Error(told(diags), e)
	}
}

func decl(t *testing.T, s string) api.Node {
	t.Helper()
	n, diags, e := pfile.File(s)
	if len(diags) != 0 || e != api.OK || len(n.Parts) != 1 {
		t.Fatal(s, diags)
	}
	return n.Parts[0]
}

// P20.2
func TestBody(t *testing.T) {
	c := all()
	for _, x := range [][2]string{
		{"function f(): number { return 1; }", ""}, {"function f(): number { }", "28@21"}, {"function f(): null | number { }", ""}, {"function f(): any { }", ""}, {"function f(): Loop { }", "27@19"}, {"function f(): number { if (b) { return 1; } }", "28@21"}, {"function f(a: number, a: string): string { return a; }", ""}, {"function f(a: number): number { a = 1; return a; }", "25@32 a"},
		{"function f<A>(x: A): A { return x; }", ""}, {"function f<A extends number>(x: A): number { return x; }", ""}, {"function f<A>(x: A): number { return x; }", "24@37"}, {"function f<A, B extends A>(x: B): A { const y: A = x; return y; }", ""}, {"function f<T extends string>(x: T): string { return x; }", ""}, {"function f<N extends string>(x: N): string { return x; }", ""}, {"function f<N>(x: N): number { return x; }", "24@37"},
		{"function f(x: T): string { return x; }", "24@34"}, {"function f<Box>(x: Box): Box { const y: Box<1> = x; return x; }", "7@40 Box"}, {"function f(a: Nobody): Who { return a; }", ""}, {"function f<A>(x: A[], g: (y: A) => A): A[] { const h = x[0]; if (h === null) { return x; } return [g(h)]; }", ""}, {"function f(): C { return this; }", ""}, {"function f(): number { const g = (): string => { return 1; }; return 1; }", "24@56"},
	} {
		diags, e := tstmt.Body(c, decl(t, x[0]))
		if e != api.OK || told(diags) != x[1] {
			t.Errorf("%s: %s %d, not %s", x[0], told(diags), e, x[1])
		}
	}
	m := decl(t, "class K() { m(a: number): string { return a; } }").Parts[0]
	if diags, e := tstmt.Body(c, m); told(diags) != "24@42" || e != api.OK {
		t.Error(told(diags), e)
	}
	if diags, e := tstmt.Body(c, expr(t, "(a: number): string => { return a; }")); told(diags) != "24@32" || e != api.OK {
		t.Error(told(diags), e)
	}
	wide := "[" + strings.TrimSuffix(strings.Repeat("1,", 2100), ",") + "]"
	if diags, e := tstmt.Body(c, decl(t, "function f(a: "+wide+", b: "+wide+"): null { nobody; }")); len(diags) != 0 || e != api.OK {
		t.Error(told(diags), e)
	}
}

// P20.1, P20.2: what is refused.
func TestForm(t *testing.T) {
	null := testkit.T("null")
	bad := api.Type{Kind: api.KUnion, Parts: []api.Type{null}}
	n, b, f := expr(t, "1"), block(t, "{ }"), decl(t, "function f(): null { }")
	refused := func(c tstmt.Context, n, b, f api.Node, u api.Type) {
		t.Helper()
		if got, d, e := tstmt.Expr(c, n); types.Formed(u) && (got.Kind != 0 || len(d) != 0 || e != api.ErrForm) {
			t.Error(got, d, e)
		}
		if d, e := tstmt.Fit(c, n, u); len(d) != 0 || e != api.ErrForm {
			t.Error(d, e)
		}
		if ends, d, e := tstmt.Block(c, b); types.Formed(u) && (ends || len(d) != 0 || e != api.ErrForm) {
			t.Error(ends, d, e)
		}
		if d, e := tstmt.Body(c, f); types.Formed(u) && (len(d) != 0 || e != api.ErrForm) {
			t.Error(d, e)
		}
	}
	for _, c := range []tstmt.Context{
		{Types: texpr.Scope{Vars: []string{""}}}, {Types: texpr.Scope{Names: []texpr.Name{{Text: "a", Global: "1"}}}}, {World: relate.World{Fuel: -1}}, {World: relate.World{Decls: []relate.Decl{{Name: "a", Type: bad}}}}, {Values: []tstmt.Value{{Name: "a", Type: bad}}}, {Values: []tstmt.Value{{Name: "a"}}},
		{Classes: []tstmt.Class{{Name: "a", Global: ""}}}, {Classes: []tstmt.Class{{Name: "a", Global: "a", Params: []api.Type{null, bad}}}}, {This: []api.Type{bad}}, {Result: []api.Type{{}}},
	} {
		refused(c, n, b, f, null)
	}
	good := tstmt.Context{}
	refused(good, n, b, f, bad)
	refused(good, api.Node{}, api.Node{}, api.Node{}, null)
	refused(good, b, n, n, null)
	refused(good, api.Node{Kind: api.EArray, Parts: []api.Node{b}}, api.Node{Kind: api.SBlock, Parts: []api.Node{n}}, api.Node{Kind: api.DFunc, Text: "f"}, null)
	refused(good, decl(t, "type A = B;").Parts[0], block(t, "{ return; }").Parts[0], decl(t, "function f(): null;"), null)
	refused(good, f, f, decl(t, "const a: A = 1;"), null)
	if got, d, e := tstmt.Expr(good, n); testkit.Text(got) != "1" || len(d) != 0 || e != api.OK {
		t.Error(got, d, e)
	}
	if d, e := tstmt.Fit(good, n, testkit.T("1")); told(d) != "27@0" || e != api.OK {
		t.Error("no fuel", told(d), e)
	}
}

// P20.1: types that are too large.
func TestLarge(t *testing.T) {
	wide := api.Type{Kind: api.KTuple, Parts: slices.Repeat([]api.Type{{Kind: api.KNull}}, 3000)}
	c := tstmt.Context{World: relate.World{Fuel: 5000}, Values: []tstmt.Value{{Name: "w", Type: wide, Const: true}, {Name: "g", Type: testkit.T("<A>(A, A) => A")}}}
	for _, x := range [][3]string{{"[w, 1]", "", ""}, {"[w" + strings.Repeat(", 1", 1094) + "]", "", ""}, {"[w" + strings.Repeat(", 1", 1095) + "]", "any", "27@0"}, {"[w, w]", "any", "27@0"}, {"{ a: w, b: [w, w] }", "", "27@11"}, {"[[w, w], nobody]", "[any, any]", "27@1; 20@9 nobody"}, {"g(w, w)", "any", "27@0"}, {"w[0]", "null", ""}} {
		got, diags, e := tstmt.Expr(c, expr(t, x[0]))
		if e != api.OK || told(diags) != x[2] || x[1] != "" && testkit.Text(got) != x[1] || !types.Formed(got) {
			t.Error(x[0], told(diags), e)
		}
	}
}
