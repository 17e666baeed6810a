package interp_test

import (
	"fmt"
	"strconv"
	"strings"
	"testing"

	"plinth/api"
	"plinth/bind"
	"plinth/interp"
	"plinth/pfile"
)

func units(t *testing.T, files ...string) []bind.Unit {
	t.Helper()
	var l []bind.Unit
	for _, f := range files {
		name, s, _ := strings.Cut(f, ": ")
		n, diags, e := pfile.File(s)
		if len(diags) != 0 || e != api.OK {
			t.Fatal(s, diags, e)
		}
		l = append(l, bind.Unit{Name: name, Node: n})
	}
	return l
}

func value(v interp.Value) string {
	switch v.Kind {
	case 0:
		return "-"
	case api.KNull:
		return "null"
	case api.KTrue:
		return "true"
	case api.KFalse:
		return "false"
	case api.KNumber:
		return strconv.FormatInt(v.N, 10)
	case api.KString:
		return strconv.Quote(v.Text)
	case api.KFunc:
		return "function"
	}
	var l []string
	for i, p := range v.Parts {
		s := value(p)
		if v.Kind == api.KObject {
			s = v.Names[i] + ": " + s
		}
		l = append(l, s)
	}
	if v.Kind == api.KObject {
		return "{" + strings.Join(l, ", ") + "}"
	}
	return "[" + strings.Join(l, ", ") + "]"
}

func told(o interp.Outcome) string {
	switch o.Kind {
	case 1:
		return "back " + value(o.Value)
	case 2:
		return "thrown " + value(o.Value)
	case 3:
		return "spent"
	}
	return fmt.Sprint("stuck ", o.File, " ", o.At)
}

func run(t *testing.T, want string, steps int, files ...string) {
	t.Helper()
	o, e := interp.Run("a", "f", steps, units(t, files...)...)
	if got := told(o); got != want || e != api.OK {
		t.Errorf("%v: %s %d, not %s", files, got, e, want)
	}
	if o.Kind != 4 && (o.File != "" || o.At != 0) || o.Kind > 2 && value(o.Value) != "-" {
		t.Errorf("%v: %v", files, o)
	}
}

// body runs a function with a body.
func body(t *testing.T, want string, steps int, body string) {
	t.Helper()
	run(t, want, steps, "a: export function f(): any { "+body+" }")
}

// P25.1: the chapter's examples.
func TestExamples(t *testing.T) {
	run(t, "back 3", 4, "a: export function f(): number { return 1 + 2; }")
	run(t, "spent", 3, "a: export function f(): number { return 1 + 2; }")
	run(t, `thrown "zero"`, 100, "a: export function f(): number { throw 1 / 0; }")
	run(t, "stuck a 58", 100, "a: export function f(): any { const x: any = null; return    x.a; }")
	run(t, `thrown "unset"`, 100, "a: export const k: number = m(); function m(): number { return k; } export function f(): number { return k; }")
}

// P25.1: the values of expressions.
func TestValues(t *testing.T) {
	for _, x := range [][2]string{
		{"1", "back 1"}, {`"a\n"`, `back "a\n"`}, {"true", "back true"}, {"false", "back false"}, {"null", "back null"}, {"{ b: 1, a: 2, b: 3 }", "back {a: 2, b: 1}"}, {"{ }", "back {}"}, {"[1, [2], null]", "back [1, [2], null]"}, {"[]", "back []"}, {"f", "back function"}, {"(): any => { }", "back function"},
		{"{ a: 1 }.a", "back 1"}, {"{ a: 1 }.b", "back null"}, {"[1, 2].length", "back 2"}, {`"aé".length`, "back 3"}, {"[1].size", "stuck a 34"}, {`"a".size`, "stuck a 34"}, {"1.a", "stuck a 34"}, {"null.a", "stuck a 34"}, {"f.length", "stuck a 34"}, {"true.length", "stuck a 34"}, {"{ length: 5 }.length", "back 5"},
		{"[1, 2][1]", "back 2"}, {"[1, 2][0]", "back 1"}, {"[1, 2][2]", "back null"}, {"[1, 2][-1]", "back null"}, {`{ a: 1 }["a"]`, "back 1"}, {`{ a: 1 }["b"]`, "back null"}, {"{ a: 1 }[0]", "stuck a 34"}, {`[1]["a"]`, "stuck a 34"}, {`"a"[0]`, "stuck a 34"}, {"null[0]", "stuck a 34"}, {"[1][null]", "stuck a 34"},
		{"-5", "back -5"}, {"-(-9223372036854775807 - 1)", "back -9223372036854775808"}, {"-null", "stuck a 34"}, {`-"a"`, "stuck a 34"}, {"!true", "back false"}, {"!false", "back true"}, {"!null", "stuck a 34"}, {"!0", "stuck a 34"},
		{"true && false", "back false"}, {"true && true", "back true"}, {"false && nobody", "back false"}, {"true || nobody", "back true"}, {"false || true", "back true"}, {"false || false", "back false"}, {"true && 1", "stuck a 34"}, {"false || null", "stuck a 34"}, {"1 && true", "stuck a 34"}, {"null || true", "stuck a 34"},
		{"1 === 1", "back true"}, {"1 === 2", "back false"}, {`"a" === "a"`, "back true"}, {`"1" === 1`, "back false"}, {"null === null", "back true"}, {"true === true", "back true"}, {"true === false", "back false"}, {"null === false", "back false"}, {"0 === null", "back false"}, {"[] === []", "back false"}, {"{ } === { }", "back false"}, {"f === f", "back true"}, {"f !== f", "back false"}, {"1 !== 2", "back true"}, {"[] !== []", "back true"}, {`"" === null`, "back false"},
		{"7 / 2", "back 3"}, {"-7 / 2", "back -3"}, {"7 / -2", "back -3"}, {"7 % 3", "back 1"}, {"-7 % 3", "back -1"}, {"7 % -3", "back 1"}, {"1 / 0", `thrown "zero"`}, {"1 % 0", `thrown "zero"`}, {"(-9223372036854775807 - 1) / -1", "back -9223372036854775808"}, {"(-9223372036854775807 - 1) % -1", "back 0"}, {"9223372036854775807 + 1", "back -9223372036854775808"}, {"4611686018427387904 * 2", "back -9223372036854775808"}, {"5 - 7", "back -2"}, {"3 * -4", "back -12"},
		{"1 < 2", "back true"}, {"2 < 2", "back false"}, {"2 <= 2", "back true"}, {"3 <= 2", "back false"}, {"2 > 1", "back true"}, {"2 > 2", "back false"}, {"2 >= 2", "back true"}, {"1 >= 2", "back false"}, {`"a" + "b"`, `back "ab"`}, {`"a" + 1`, "stuck a 34"}, {`1 + "a"`, "stuck a 34"}, {`"a" < "b"`, "stuck a 34"}, {"null + null", "stuck a 34"}, {"[] + []", "stuck a 34"}, {`"a" * 2`, "stuck a 34"}, {`"a" - "b"`, "stuck a 34"},
		{"true ? 1 : nobody", "back 1"}, {"false ? nobody : 2", "back 2"}, {"null ? 1 : 2", "stuck a 34"}, {"1 as string", "back 1"}, {"null!", "back null"}, {"typeof null", `back "null"`}, {"typeof true", `back "boolean"`}, {"typeof 1", `back "number"`}, {`typeof ""`, `back "string"`}, {"typeof []", `back "array"`}, {"typeof { }", `back "object"`}, {"typeof f", `back "function"`},
		{"nobody", "stuck a 34"}, {"this", "stuck a 34"}, {"I", "stuck a 34"}, {"C", "stuck a 34"}, {"new C(1)", "back {a: 1, m: function}"}, {"new C(1, nobody)", "stuck a 43"}, {"new C(1, 2).a", "back 1"}, {"new C()", "stuck a 34"}, {"new I()", "stuck a 34"}, {"new nobody(1)", "stuck a 34"}, {"new k()", "stuck a 34"}, {"new nobody(who)", "stuck a 45"}, {"k", "back 7"},
		{"g(1)", "back 1"}, {"g(1, 2)", "back 1"}, {"g()", "stuck a 34"}, {"1(2)", "stuck a 34"}, {"nobody(who)", "stuck a 34"}, {"1(who)", "stuck a 36"}, {"g(who)", "stuck a 36"}, {"[who, 1 / 0]", "stuck a 35"}, {"[1 / 0, who]", `thrown "zero"`}, {"{ a: 1 / 0, b: who }", `thrown "zero"`}, {"(1 / 0) + who", `thrown "zero"`}, {"h()", "back null"}, {"new C(5).m()", "back 5"}, {"(who)", "stuck a 35"},
	} {
		run(t, x[1], 1000, "a: export function f(): any { return "+x[0]+"; } interface I { } class C(x: any) { a: any = x; m(): any { return this.a; } } const k: any = 7; function g(x: any): any { return x; } function h(): any { }")
	}
}

// P25.1: statements.
func TestStatements(t *testing.T) {
	for _, x := range [][2]string{
		{"", "back null"}, {"return;", "back null"}, {"return 1; return 2;", "back 1"}, {"const a = 1; let b = 2; b = a + b; return b;", "back 3"}, {"const a = 1; a = 2; return a;", "back 2"}, {"const a = 1; { const a = 2; } return a;", "back 1"}, {"let a = 1; { a = 2; } return a;", "back 2"}, {"{ const a = 1; } return a;", "stuck a 51"}, {"a = 1;", "stuck a 27"}, {"f = 1;", "stuck a 27"}, {"a = 1 / 0;", `thrown "zero"`},
		{"const a = 1; const a = 2; return a;", "back 2"}, {"const o = { a: 1 }; o.a = 2; o.b = 3; return o;", "back {a: 2, b: 3}"}, {"const o = { }; const p = o; p.a = 1; return [o === p, o.a];", "back [true, 1]"}, {"const o = null; o.a = 1;", "stuck a 43"}, {"const o = []; o.length = who;", "stuck a 52"}, {"const o = []; o.length = 1;", "stuck a 41"}, {"who.a = 1 / 0;", "stuck a 27"},
		{"if (true) { return 1; } else { return 2; }", "back 1"}, {"if (false) { return 1; } else { return 2; }", "back 2"}, {"if (false) { return 1; } return 3;", "back 3"}, {"if (1) { }", "stuck a 27"}, {"let i = 0; let s = 0; while (i < 5) { i = i + 1; s = s + i; } return s;", "back 15"}, {"while (null) { }", "stuck a 27"}, {"while (true) { return 1; }", "back 1"}, {"while (1 / 0 === 1) { }", `thrown "zero"`},
		{"throw { a: 1 };", "thrown {a: 1}"}, {"throw null;", "thrown null"}, {"try { throw 1; } catch (e) { return [e]; }", "back [1]"}, {"try { return 1; } catch (e) { return 2; }", "back 1"}, {"try { } catch (e) { return 2; } return 3;", "back 3"}, {"try { throw 1; } catch (e) { } return e;", "stuck a 65"}, {"try { who; } catch (e) { }", "stuck a 33"}, {"try { throw 1; } catch (e) { throw [e]; }", "thrown [1]"}, {"try { try { throw 1; } catch (e) { throw [e]; } } catch (e) { return e; }", "back [1]"},
		{"let a = 1; const g = (): any => { a = a + 1; return a; }; g(); return [g(), a];", "back [3, 3]"}, {"const g = (x: any): any => { return (y: any): any => { return [x, y]; }; }; return g(1)(2);", "back [1, 2]"}, {"const g = (): any => { return b; }; const b = 1; return g();", "stuck a 57"}, {"const g = (x: any, x: any): any => { return x; }; return g(1, 2);", "back 2"}, {"let s = \"\"; try { while (true) { s = s + \"x\"; s = s + s; } } catch (e) { return e; }", `back "long"`},
		{"let s = \"x\"; let i = 0; while (i < 18) { i = i + 1; s = s + s; } try { s + \"\"; } catch (e) { return e; } return s.length;", "back 262144"}, {"let s = \"x\"; let i = 0; while (i < 18) { i = i + 1; s = s + s; } return s + \"y\";", `thrown "long"`}, {"const a = [1, 2]; const b = a; return [a === b, a === [1, 2]];", "back [true, false]"}, {"let i = 0; while (true) { i = i + 1; if (i === 3) { return i; } }", "back 3"}, {"{ return 1; }", "back 1"}, {"const g = (): any => { throw 5; }; try { g(); } catch (e) { return e + 1; }", "back 6"}, {"try { const q = 1 / 0; } catch (e) { return e; }", `back "zero"`},
	} {
		body(t, x[1], 100000, x[0])
	}
}

// P25.1: classes.
func TestClasses(t *testing.T) {
	for _, x := range [][2]string{
		{"class P(x: any) { a: any = x; b: any = [x]; } class Q(y: any) extends P(y + 1) { c: any = y; b: any = 0; } export function f(): any { return new Q(1); }", "back {a: 2, b: 0, c: 1}"},
		{"class P() { a: any = 1; m(): any { return this.a; } } class Q() extends P() { a: any = 2; } export function f(): any { const q = new Q(); const m = q.m; q.a = 3; return [q.m(), m()]; }", "back [3, 3]"},
		{"class P() { m(): any { return this; } } export function f(): any { const p = new P(); return p.m() === p; }", "back true"}, {"class P(x: any, x: any) { a: any = x; } export function f(): any { return new P(1, 2).a; }", "back 2"}, {"class P() { a: any = this; } export function f(): any { return new P(); }", "stuck a 21"},
		{"class P(x: any) { } class Q() extends P() { } export function f(): any { return new Q(); }", "stuck a 38"}, {"class Q() extends Nobody() { } export function f(): any { return new Q(); }", "stuck a 18"}, {"class Q() extends Nobody(1 / 0) { } export function f(): any { return new Q(); }", `thrown "zero"`}, {"class Q() extends Q() { } export function f(): any { return new Q(); }", "spent"},
		{"class P() { a: any = 1 / 0; b: any = who; } export function f(): any { return new P(); }", `thrown "zero"`}, {"class P() { m(): any { return x; } } export function f(): any { const x = 1; return new P().m(); }", "stuck a 30"}, {"class P(x: any) { m(): any { return x; } } export function f(): any { return new P(1).m(); }", "stuck a 36"},
		{"class P(x: any) { g: any = (): any => { return x; }; h: any = (): any => { return this; }; } export function f(): any { return [new P(4).g(), new P(5).h()]; }", "stuck a 82"}, {"class P() { a: any = 1; a: any = 2; } export function f(): any { return new P().a; }", "back 2"}, {"class P() { m(): any { return (): any => { return this.a; }; } } export function f(): any { const p = new P(); p.a = 9; return p.m()(); }", "back 9"},
		{"class P() { a: any = new P(); } export function f(): any { return new P(); }", "spent"},
	} {
		run(t, x[1], 1000, "a: "+x[0])
	}
}

// P25.1: files that import from one another, and their constants.
func TestFiles(t *testing.T) {
	run(t, `back [1, 2, {a: 3}, true]`, 1000,
		`a: import { x, g, C } from "b"; const y: any = x + 1; export function f(): any { return [x, y, new C(y), g === g]; }`, `b: export const x: any = z; export function g(): any { return z; } import { z } from "c"; export class C(q: any) { a: any = q + one; } const one: any = 1;`,
		`c: export const z: any = 1;`)
	run(t, `thrown "unset"`, 1000, `a: import { x } from "b"; export function f(): any { return x; }`, `b: export const x: any = z; const z: any = 1;`)
	run(t, `back 1`, 1000, `a: import { x } from "b"; export const y: any = 1; export function f(): any { return x(); }`, `b: import { y } from "a"; export function x(): any { return y; }`)
	run(t, `thrown "unset"`, 1000, `a: import { x } from "b"; export const y: any = 1; export function f(): any { return x; }`, `b: import { y } from "a"; export const x: any = y;`)
	run(t, "stuck b 23", 1000, `a: import { x } from "b"; export function f(): any { return x(); }`, `b:         const q: any = nobody; export function x(): any { return 1; }`)
	run(t, "stuck a 56", 1000, `a: import { x } from "nowhere"; export function f(): any { x; }`)
	run(t, "stuck b 34", 1000, `a: import { x } from "b"; export function f(): any { return x(); } const q: any = 1;`, `b: export function x(): any { return q; }`)
	run(t, "thrown 5", 1000, `a: import { x } from "b"; const q: any = nobody; export function f(): any { return 1; }`, `b: export const x: any = g(); function g(): any { throw 5; }`)
	run(t, "back [1, 1]", 1000, `a: import { n, tick } from "b"; import { n2 } from "c"; export function f(): any { return [n, n2]; }`, `b: export const o: any = { v: 0 }; export function tick(): any { o.v = o.v + 1; return o.v; } export const n: any = tick();`, `c: import { n } from "b"; export const n2: any = n;`)
	run(t, "back 2", 1000, "a: const q: any = 1; const q: any = nobody; const r: any = q + 1; export function f(): any { return r; }")
	run(t, "back 1", 1000, "a: export function f(): number; export function f(): any { return 1; }")
	run(t, "back null", 0, "a: export function f(): any { } interface f { }")
	run(t, "spent", 0, "a: const k: any = 1; export function f(): any { }")
	run(t, "back null", 1, "a: const k: any = 1; export function f(): any { }")
}

// P25.1: calls and classes that are open.
func TestCalls(t *testing.T) {
	deep := func(n int) string {
		return "a: function g(n: any): any { if (n === 0) { return 0; } return 1 + g(n - 1); } export function f(): any { return g(" + strconv.Itoa(n) + "); }"
	}
	run(t, "back 398", 100000, deep(398))
	run(t, "spent", 100000, deep(399))
	made := func(n int) string {
		return "a: class C(n: any) { next: any = n === 0 ? null : new C(n - 1); } export function f(): any { return typeof new C(" + strconv.Itoa(n) + "); }"
	}
	run(t, `back "object"`, 100000, made(398))
	run(t, "spent", 100000, made(399))
	chain := func(n int) string {
		s := "a: class C0() { }"
		for i := 1; i <= n; i++ {
			s += " class C" + strconv.Itoa(i) + "() extends C" + strconv.Itoa(i-1) + "() { }"
		}
		return s + " export function f(): any { return typeof new C" + strconv.Itoa(n) + "(); }"
	}
	run(t, `back "object"`, 100000, chain(398))
	run(t, "spent", 100000, chain(399))
	run(t, "spent", 100000, "a: function g(): any { try { g(); } catch (e) { return 1; } } export function f(): any { return g(); }")
	run(t, "back 5", 100000, "a: function g(n: any): any { if (n === 0) { throw 5; } g(n - 1); } export function f(): any { let i = 0; while (i < 10) { i = i + 1; try { g(300); } catch (e) { } } try { g(300); } catch (e) { return e; } }")
	run(t, "spent", 100000, "a: export function f(): any { while (true) { } }")
}

// P25.1: values as they are told.
func TestTold(t *testing.T) {
	body(t, "back [[[[[[]]]]]]", 1000, "return [[[[[[]]]]]];")
	body(t, "back [[[[[[-, 1, -, 2, function]]]]]]", 1000, "return [[[[[[[3], 1, { }, 2, f]]]]]];")
	body(t, "back {a: [{b: [{c: [-, null]}]}]}", 1000, "return { a: [{ b: [{ c: [[], null] }] }] };")
	body(t, "back {a: {a: {a: {a: {a: {a: -, b: 1}, b: 1}, b: 1}, b: 1}, b: 1}, b: 1}", 1000, "const o = { b: 1 }; o.a = o; return o;")
	many := "return [" + strings.TrimSuffix(strings.Repeat("1,", 250), ",") + "];"
	body(t, "back ["+strings.TrimSuffix(strings.Repeat("1, ", 199)+strings.Repeat("-, ", 51), ", ")+"]", 1000, many)
	left := "return [" + strings.Repeat("[[[[[[]]]]]],", 10) + strings.TrimSuffix(strings.Repeat("1,", 250), ",") + "];"
	body(t, "back ["+strings.Repeat("[[[[[-]]]]], ", 10)+strings.TrimSuffix(strings.Repeat("1, ", 149)+strings.Repeat("-, ", 101), ", ")+"]", 1000, left)
	body(t, `back [{B: 1, a: 2, b: 3}, -9223372036854775807, "x", true, false, null]`, 1000, `return [{ b: 3, a: 2, B: 1 }, -9223372036854775807, "x", true, false, null];`)
	body(t, "thrown [[[[[[-]]]]]]", 1000, "throw [[[[[[[]]]]]]];")
}

// P25.1: what is refused.
func TestWrong(t *testing.T) {
	a := units(t, "a: export function f(): any { } function g(): any { } export function h(x: any): any { } export const k: any = 1; export const c: any = 1; export function c(): any { } export class K() { } export type t = 1; export function o(): any;", `b: import { f } from "a"; import { q } from "nowhere"; export function q(): any { }`)
	for _, x := range []struct {
		file, name string
		steps      int
		l          []bind.Unit
		e          api.Errno
	}{
		{"a", "f", 0, a, api.OK}, {"a", "f", api.MaxSteps, a, api.OK}, {"a", "f", -1, a, api.ErrRange}, {"a", "f", api.MaxSteps + 1, a, api.ErrRange}, {"a", "nobody", -1, a, api.ErrRange}, {"nobody", "f", -1, a, api.ErrNone}, {"a", "nobody", 1, a, api.ErrNone}, {"a", "g", 1, a, api.ErrNone}, {"a", "h", 1, a, api.ErrNone}, {"a", "k", 1, a, api.ErrNone},
		{"a", "c", 1, a, api.ErrNone}, {"a", "K", 1, a, api.ErrNone}, {"a", "t", 1, a, api.ErrNone}, {"a", "o", 1, a, api.ErrNone}, {"b", "f", 1, a, api.ErrNone}, {"b", "q", 1, a, api.OK}, {"a", "f", 1, nil, api.ErrNone}, {"a", "f", -1, append(a, a[0]), api.ErrTwice}, {"a", "f", -1, append(a, bind.Unit{Name: "c"}), api.ErrForm}, {"a", "", 1, a, api.ErrNone},
	} {
		o, e := interp.Run(x.file, x.name, x.steps, x.l...)
		if e != x.e || (e == api.OK) != (o.Kind == 1 || o.Kind == 3) || e != api.OK && told(o) != "stuck  0" {
			t.Error(x.file, x.name, x.steps, o, e)
		}
	}
}

// P25.2
func TestSteps(t *testing.T) {
	for s, steps := range map[string]int{
		"": 0, "return;": 1, "return 1;": 2, "{ }": 1, "{ { } }": 2, "if (true) { }": 2, "if (true) { } else { 1; }": 2, "if (false) { } else { 1; }": 4, "const a = 1; let b = a;": 4, "const o = { a: 1, a: 2 }; o.a = 1;": 7, "let a = 1; a = 2;": 4, "throw 1;": 2, "try { } catch (e) { }": 1, "try { throw 1; } catch (e) { e; }": 5, "while (false) { }": 2, "let i = 0; while (i < 2) { i = i + 1; }": 2 + 1 + 3*3 + 2*4,
		"return [1, 2];": 4, "return { a: 1 }.a;": 4, "return [1][0];": 5, "return -1;": 3, "return !true;": 3, "return true && false;": 4, "return false && true;": 3, "return true ? 1 : 2;": 4, "return 1 as any;": 3, "return 1!;": 3, "return typeof 1;": 3, "return f === f;": 4, "const g = (): any => { return 1; }; g();": 7, "const g = (x: any): any => { }; g(1);": 6, "return new C(1);": 5, "return new D();": 5, "return new C(1).m();": 9, "this;": 2, "return k;": 2,
	} {
		file := "a: export function f(): any { " + s + " } class C(x: any) { a: any = 1; b: any = x; m(): any { return 1; } } class D() extends E(1) { a: any = 1; } class E(x: any) { b: any = x; }"
		l := units(t, file)
		want, _ := interp.Run("a", "f", 1000, l...)
		for i := range steps + 5 {
			o, e := interp.Run("a", "f", i, l...)
			if i < steps && o.Kind != 3 || i >= steps && told(o) != told(want) || e != api.OK {
				t.Errorf("%s with %d steps: %s %d, not %s with %d", s, i, told(o), e, told(want), steps)
			}
		}
	}
}
