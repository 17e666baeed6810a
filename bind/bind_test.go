package bind_test

import (
	"fmt"
	"slices"
	"strings"
	"testing"

	"plinth/api"
	"plinth/bind"
	"plinth/pfile"
)

// unit reads a file that has no fault.
func unit(t *testing.T, name, s string) bind.Unit {
	t.Helper()
	n, diags, e := pfile.File(s)
	if len(diags) != 0 || e != api.OK {
		t.Fatal(s, diags, e)
	}
	return bind.Unit{Name: name, Node: n}
}

func symbols(l []bind.Symbol) string {
	var out []string
	for _, s := range l {
		x := fmt.Sprint(s.Name, "@", s.File, " ", s.Kinds, " ", s.Decls)
		if s.Exported {
			x += "!"
		}
		out = append(out, x)
	}
	return strings.Join(out, "; ")
}

func diags(l []api.Diag) string {
	var out []string
	for _, d := range l {
		out = append(out, fmt.Sprint(d.File, ":", d.At, " ", d.Code, " ", d.Text))
	}
	return strings.Join(out, "; ")
}

// P12.1
func TestLocals(t *testing.T) {
	for _, x := range [][3]string{
		{"", "", ""},
		{"interface A { a: T; } interface A { b: T; } const A: T = 1;", "A@f 3 [0 1 2]", ""},
		{"type A = T; interface A { }", "A@f 1 [0]", "f:12 3 A"},
		{"function f(x: T): T; function f(x: T): T { }", "f@f 2 [0 1]", ""},
		{"function f(x: T): T;", "", "f:0 4 f"},
		{"const b: T = 1; type a = T; class C() { }", "C@f 3 [2]; a@f 1 [1]; b@f 2 [0]", ""},
		{"import { a } from \"g\"; const b: T = 1;", "b@f 2 [1]", ""},
		{"import { a } from \"g\"; const a: T = 1;", "a@f 2 [1]", ""},
		{"export const b: T = 1; export type b = T;", "b@f 3 [0 1]!", ""},
		{"const b: T = 1; export type b = T;", "b@f 3 [0 1]!", ""},
		{"export interface A { } interface A { }", "A@f 1 [0 1]!", ""},
		{"interface A { } const x: T = 1; export interface A { }", "A@f 1 [0 2]!; x@f 2 [1]", ""},
		{"const a: T = 1; const a: T = 2; const a: T = 3;", "a@f 2 [0]", "f:16 3 a; f:32 3 a"},
		{"const a: T = 1; export const a: T = 2;", "a@f 2 [0]", "f:16 3 a"},
		{"class A() { } interface A { }", "A@f 3 [0]", "f:14 3 A"},
		{"interface A { } class A() { }", "A@f 1 [0]", "f:16 3 A"},
		{"interface A { } class A() { } const A: T = 1; interface A { }", "A@f 3 [0 2 3]", "f:16 3 A"},
		{"const A: T = 1; class A() { }", "A@f 2 [0]", "f:16 3 A"},
		{"class A() { } class A() { } const A: T = 1;", "A@f 3 [0]", "f:14 3 A; f:28 3 A"},
		{"type A = T; type A = T; const A: T = 1;", "A@f 3 [0 2]", "f:12 3 A"},
		{"interface A { } type A = T; interface A { }", "A@f 1 [0 2]", "f:16 3 A"},
		{"const A: T = 1; interface A { } interface A { }", "A@f 3 [0 1 2]", ""},
		{"function f(): T { } function f(): T { }", "f@f 2 [0]", "f:20 3 f"},
		{"function f(): T; function f(): T; function f(): T { }", "f@f 2 [0 1 2]", ""},
		{"export function f(): T; function f(): T { }", "f@f 2 [0 1]!", ""},
		{"function f(): T; function g(): T { } function f(): T { }", "f@f 2 [2]; g@f 2 [1]", "f:0 4 f"},
		{"function f(): T; function f(): T; function g(): T { }", "g@f 2 [2]", "f:0 4 f; f:17 4 f"},
		{"function f(): T; function g(): T; function f(): T { }", "f@f 2 [2]", "f:0 4 f; f:17 4 g"},
		{"function f(): T { } function f(): T; function f(): T { }", "f@f 2 [0]", "f:20 4 f; f:37 3 f"},
		{"const f: T = 1; function f(): T; function f(): T; function f(): T { }", "f@f 2 [0]", "f:16 4 f; f:33 4 f; f:50 3 f"},
		{"const f: T = 1; function f(): T;", "f@f 2 [0]", "f:16 4 f"},
		{"function f(): T; const f: T = 1;", "f@f 2 [1]", "f:0 4 f"},
		{"function f(): T { } function f(): T;", "f@f 2 [0]", "f:20 4 f"},
		{"function f(): T; import { f } from \"f\"; function f(): T { }", "f@f 2 [2]", "f:0 4 f"},
		{"function f(): T; type f = T; function f(): T { }", "f@f 3 [1 2]", "f:0 4 f"},
		{"interface f { } function f(): T; function f(): T { }", "f@f 3 [0 1 2]", ""},
		{"function f(): T; function f(): T { } function f(): T; function f(): T { }", "f@f 2 [0 1]", "f:37 4 f; f:54 3 f"},
	} {
		s, d := bind.Locals(unit(t, "f", x[0]))
		if symbols(s) != x[1] || diags(d) != x[2] {
			t.Errorf("%q: %s, not %s\n%s, not %s", x[0], symbols(s), x[1], diags(d), x[2])
		}
	}
	if s, d := bind.Locals(bind.Unit{Name: "f"}); len(s) != 0 || len(d) != 0 {
		t.Error(s, d)
	}
	if s, d := bind.Locals(bind.Unit{Name: "f", Node: api.Node{Kind: api.DFile, Parts: []api.Node{{Kind: api.DConst, Text: "a"}}}}); len(s) != 0 || len(d) != 0 {
		t.Error(s, d)
	}
}

func scopes(l []bind.Scope) string {
	var out []string
	for _, s := range l {
		out = append(out, s.File+": "+symbols(s.Symbols))
	}
	return strings.Join(out, "\n")
}

// P12.2
func TestLink(t *testing.T) {
	a := unit(t, "a", `export const x: T = 1; export interface I { } const y: T = 1; export type x = T; function o(): T;`)
	b := unit(t, "b", `import { x, I } from "a"; const z: T = 1; export const w: T = 1;`)
	c := unit(t, "c", `import { w, x } from "b"; import { q } from "nowhere"; import { y, nobody, x, I } from "a"; interface I { } import { x } from "a"; import { I, w } from "b"; import { q, r } from "nowhere";`)
	d := unit(t, "d", `export const e: T = 1; const f: T = 1; import { e, f, g } from "d"; const e: T = 2;`)
	e := unit(t, "e", `import { s, o } from "a"; import { e } from "d"; const e: T = 1; const e: T = 1;`)
	s, l, errno := bind.Link(c, a, e, b, d)
	if errno != api.OK {
		t.Fatal(errno)
	}
	want := "c: I@c 1 [3]; w@b 2 [2]!; x@a 3 [0 3]!\na: I@a 1 [1]!; x@a 3 [0 3]!; y@a 2 [2]\ne: e@e 2 [2]\nb: I@a 1 [1]!; w@b 2 [2]!; x@a 3 [0 3]!; z@b 2 [1]\nd: e@d 2 [0]!; f@d 2 [1]"
	if scopes(s) != want {
		t.Errorf("%s\nnot\n%s", scopes(s), want)
	}
	wantDiags := "c:12 6 x; c:26 5 nowhere; c:64 6 y; c:67 6 nobody; c:78 3 I; c:117 3 x; c:140 6 I; c:143 3 w; c:157 5 nowhere; a:81 4 o; e:65 3 e; e:9 6 s; e:12 6 o; e:35 3 e; d:68 3 e; d:48 3 e; d:51 6 f; d:54 6 g"
	if diags(l) != wantDiags {
		t.Errorf("%s\nnot\n%s", diags(l), wantDiags)
	}
	s[0].Symbols[2].Decls[0] = 99
	if symbols(s[1].Symbols) != "I@a 1 [1]!; x@a 3 [0 3]!; y@a 2 [2]" {
		t.Error("two lists of one answer share")
	}
	if s, l, e := bind.Link(); len(s) != 0 || len(l) != 0 || e != api.OK {
		t.Error(s, l, e)
	}
}

// P12.2, P12.3
func TestRefused(t *testing.T) {
	a, bad := unit(t, "a", "const x: T = 1;"), bind.Unit{Name: "b"}
	for _, x := range []struct {
		l []bind.Unit
		e api.Errno
	}{{[]bind.Unit{a, a}, api.ErrTwice}, {[]bind.Unit{a, bad}, api.ErrForm}, {[]bind.Unit{bad, a, a}, api.ErrTwice}, {[]bind.Unit{bad, bad}, api.ErrTwice}} {
		if s, d, e := bind.Link(x.l...); len(s) != 0 || len(d) != 0 || e != x.e {
			t.Error(s, d, e)
		}
		for _, name := range []string{"a", "nobody"} {
			if l, e := bind.Reach(name, x.l...); len(l) != 0 || e != x.e {
				t.Error(l, e)
			}
		}
	}
	if l, e := bind.Reach("nobody", a); len(l) != 0 || e != api.ErrNone {
		t.Error(l, e)
	}
	if l, e := bind.Reach("a"); len(l) != 0 || e != api.ErrNone {
		t.Error(l, e)
	}
}

// P12.3
func TestReach(t *testing.T) {
	units := []bind.Unit{
		unit(t, "d", `import { x } from "b";`), unit(t, "b", `import { nobody } from "c"; import { x } from "nowhere";`), unit(t, "c", `import { y } from "c"; import { x } from "b"; import { z } from "a";`),
		unit(t, "a", ""), unit(t, "e", `type d = T; const b: T = 1;`),
	}
	for name, want := range map[string]string{"a": "a", "b": "a b c", "c": "a b c", "d": "a b c d", "e": "e"} {
		for range 2 {
			if l, e := bind.Reach(name, units...); strings.Join(l, " ") != want || e != api.OK {
				t.Error(name, l, e)
			}
			slices.Reverse(units)
		}
	}
}

// P12.4
func TestWhatFollows(t *testing.T) {
	units := []bind.Unit{unit(t, "a", `export const x: T = 1; import { y } from "b";`), unit(t, "b", `import { x, y } from "a"; export type y = T;`), unit(t, "c", `import { x, q } from "a"; import { y } from "b"; const y: T = 1;`)}
	byFile := func(l []bind.Unit) map[string]string {
		s, d, e := bind.Link(l...)
		if e != api.OK {
			t.Fatal(e)
		}
		out := map[string]string{}
		for i, one := range s {
			if one.File != l[i].Name {
				t.Error("the units' order")
			}
			out[one.File] = symbols(one.Symbols)
		}
		for _, one := range d {
			out[one.File] += diags([]api.Diag{one})
		}
		return out
	}
	want := byFile(units)
	for _, order := range [][]int{{0, 2, 1}, {1, 0, 2}, {1, 2, 0}, {2, 0, 1}, {2, 1, 0}} {
		var l []bind.Unit
		for _, i := range order {
			l = append(l, units[i])
		}
		if got := byFile(l); fmt.Sprint(got) != fmt.Sprint(want) {
			t.Error(got, want)
		}
	}
	alone, _, _ := bind.Link(units[0])
	if symbols(alone[0].Symbols) != "x@a 2 [0]!" {
		t.Error(symbols(alone[0].Symbols))
	}
}
