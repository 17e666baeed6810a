package cond_test

import (
	"slices"
	"strings"
	"testing"

	"plinth/api"
	"plinth/cond"
	"plinth/testkit"
	"plinth/types"
)

var bad = api.Type{Kind: api.KUnion, Parts: []api.Type{{Kind: api.KNull}}}

func told(l []cond.Found) string {
	var out []string
	for _, f := range l {
		out = append(out, f.Name+" = "+testkit.Text(f.Type))
	}
	return strings.Join(out, "; ")
}

// P14.1
func TestGather(t *testing.T) {
	for _, x := range [][3]string{
		{"number[]", "(infer V)[]", "V = number"},
		{"[number, null]", "(infer V)[]", "V = null | number"},
		{"(number) => string", "(any) => infer R", "R = string"},
		{"{ a: number; b?: string; }", "{ b: infer V; }", "V = null | string"},
		{"number", "(infer V)[]", "V = unknown"},
		{"number[] | string[]", "(infer V)[]", "V = number | string"},
		{"null | number", "infer V", "V = null | number"},
		{"never", "infer V", "V = never"},
		{"[]", "(infer V)[]", "V = never"},
		{"never[]", "(infer V)[]", "V = never"},
		{"[number, string]", "[infer B, infer A]", "A = string; B = number"},
		{"[number, string]", "[infer A, infer A]", "A = number | string"},
		{"[number]", "[infer A, infer B]", "A = unknown; B = unknown"},
		{"number[]", "[infer A]", "A = unknown"},
		{"(number, string) => null", "(infer A) => infer R", "A = number; R = null"},
		{"(number) => null", "(infer A, infer B) => infer R", "A = number; B = unknown; R = null"},
		{"() => null", "(infer A) => infer R", "A = unknown; R = null"},
		{"<A>(A) => A", "(infer V) => infer R", "R = unknown; V = unknown"},
		{"((number) => null) & (() => null)", "() => infer R", "R = unknown"},
		{"{ a: 1; b: 2; }", "{ a: infer A; c: infer C; }", "A = 1; C = unknown"},
		{"{ mut a: 1; }", "{ a?: infer A; }", "A = 1"},
		{"{ a?: { b: 1; }; }", "{ a: { b: infer B; }; }", "B = 1"},
		{"Box<number>", "Box<infer V>", "V = number"},
		{"Box<number>", "Bag<infer V>", "V = unknown"},
		{"Box<number, string>", "Box<infer V>", "V = unknown"},
		{"Box<1> | Box<2> | null", "Box<infer V>", "V = 1 | 2"},
		{"number", "(infer V)[] | infer W", "V = unknown; W = number"},
		{"number[]", "(infer V)[] | infer W", "V = number; W = number[]"},
		{"number[] | null", "(infer V)[] | infer W", "V = number; W = null | number[]"},
		{"1[] | [2]", "(infer V)[] | [infer V]", "V = 1 | 2"},
		{"any", "(infer V)[]", "V = unknown"},
		{"never", "(infer V)[]", "V = unknown"},
		{"unknown", "infer V", "V = unknown"},
		{"keyof number", "keyof (infer V)", "V = unknown"},
		{"A[number]", "A[infer V]", "V = unknown"},
		{"{ [K in number]: null }", "{ [K in infer V]: null }", "V = unknown"},
		{"(() => 1) & (() => 2)", "(() => infer V) & (() => infer W)", "V = unknown; W = unknown"},
		{"number extends null ? 1 : 2", "(infer T) extends null ? infer V : 2", "T = unknown; V = unknown"},
		{"number", "A extends infer V ? infer W : B", "W = unknown"},
		{"number[]", "null[]", ""},
		{"number", "number", ""},
		{"[number[], string[]]", "(infer V)[][]", "V = number | string"},
		{"[1, 2][]", "(infer V)[][]", "V = 1 | 2"},
		{"([1] | [2, 3])[]", "[infer A][]", "A = 1"},
		{"(() => 1) | (() => 2)", "() => infer R", "R = 1 | 2"},
		{"{ a: 1; } | { b: 2; } | { a?: 3; }", "{ a: infer A; }", "A = null | 1 | 3"},
		{"infer V", "infer W", "W = infer V"},
		{"any | infer X", "infer W", "W = any | infer X"},
		{"number", "<A extends infer V>(A) => infer W", "W = unknown"},
		{"(1) => 2", "<A extends infer V>(A) => infer W", "W = 2"},
		{"[any, number]", "(infer V)[]", "V = any"},
	} {
		l, e := cond.Gather(testkit.T(x[0]), testkit.T(x[1]))
		if e != api.OK || told(l) != x[2] {
			t.Errorf("%s against %s: %s %d, not %s", x[0], x[1], told(l), e, x[2])
		}
	}
	null := testkit.T("null")
	for _, x := range [][2]api.Type{{bad, null}, {null, bad}, {{}, {}}} {
		if l, e := cond.Gather(x[0], x[1]); len(l) != 0 || e != api.ErrForm {
			t.Error(l, e)
		}
	}
}

// found reads "A = t; B = u".
func found(s string) []cond.Found {
	var l []cond.Found
	for _, one := range strings.Split(s, "; ") {
		if name, t, is := strings.Cut(one, " = "); is {
			l = append(l, cond.Found{Name: name, Type: testkit.T(t)})
		}
	}
	return l
}

// P14.2
func TestFill(t *testing.T) {
	for _, x := range [][3]string{
		{"(infer V)[]", "V = number", "number[]"},
		{"infer V", "V = null | number", "null | number"},
		{"infer V", "V = null; V = number", "null"},
		{"[infer V, infer W, V]", "V = 1", "[1, infer W, V]"},
		{"infer V | number", "V = 5", "number"},
		{"infer V | null", "V = any", "any"},
		{"any | infer V", "V = null", "any"},
		{"infer V | infer W", "V = 1; W = 1", "1"},
		{"{ a: infer V; mut b?: [infer V]; }", "V = A", "{ a: A; mut b?: [A]; }"},
		{"(infer V) => infer W", "V = 1; W = 2", "(1) => 2"},
		{"Box<infer V>", "V = ref", "Box<ref>"},
		{"infer V extends infer V ? infer V : infer V", "V = 1", "1 extends infer V ? 1 : 1"},
		{"A extends [infer V, infer V extends infer W ? infer W : infer V] ? infer V : B", "V = 1; W = 2", "A extends [infer V, infer V extends infer W ? infer W : infer V] ? 1 : B"},
		{"keyof (infer V)", "V = A", "keyof A"},
		{"(infer V)[infer W]", "V = A; W = B", "A[B]"},
		{"{ [K in infer V]: infer K }", "V = A; K = 1", "{ [K in A]: 1 }"},
		{"(() => infer V) & (() => null)", "V = A", "(() => A) & (() => null)"},
		{"<A extends infer V>(infer V) => A", "V = 1", "<A extends infer V>(1) => A"},
		{"infer V", "", "infer V"},
		{"V", "V = 1", "V"},
		{"infer V", "V = infer V", "infer V"},
		{"[infer V]", "V = [infer V]; W = 1", "[[infer V]]"},
	} {
		p := testkit.T(x[0])
		got, e := cond.Fill(p, found(x[1])...)
		if testkit.Text(p) != testkit.Text(testkit.T(x[0])) {
			t.Errorf("%s is changed", x[0])
		}
		if e != api.OK || types.Order(got, testkit.T(x[2])) != 0 {
			t.Errorf("%s with %s: %s %d, not %s", x[0], x[1], testkit.Text(got), e, x[2])
		}
	}
	null := testkit.T("null")
	for _, x := range []struct {
		p api.Type
		l []cond.Found
	}{{bad, nil}, {null, []cond.Found{{"V", bad}}}, {null, []cond.Found{{"V", null}, {"V", bad}}}, {null, []cond.Found{{"", api.Type{}}}}} {
		if got, e := cond.Fill(x.p, x.l...); got.Kind != 0 || e != api.ErrForm {
			t.Error(got, e)
		}
	}
	if got, e := cond.Fill(null, cond.Found{Name: "no name", Type: null}); got.Kind != api.KNull || e != api.OK {
		t.Error(got, e)
	}
}

// P14.2: how large it may be.
func TestFillLarge(t *testing.T) {
	tuple := func(count int, x api.Type) api.Type {
		return api.Type{Kind: api.KTuple, Parts: slices.Repeat([]api.Type{x}, count)}
	}
	null, v := testkit.T("null"), testkit.T("infer V")
	for _, x := range []struct {
		p, with api.Type
		e       api.Errno
	}{
		{v, tuple(4095, null), api.OK}, {testkit.T("(infer V)[]"), tuple(4095, null), api.ErrLarge}, {testkit.T("(infer V)[]"), tuple(4094, null), api.OK},
		{tuple(63, v), tuple(64, null), api.OK}, {tuple(63, v), tuple(65, null), api.ErrLarge}, {tuple(4095, v), tuple(4095, null), api.ErrLarge},
		{testkit.T("any | infer V"), tuple(4093, null), api.OK}, {testkit.T("any | infer V"), tuple(4094, null), api.ErrLarge},
		{testkit.T("A extends [infer V, infer V] ? infer V : B"), tuple(4087, null), api.OK}, {testkit.T("A extends [infer V, infer V] ? infer V : B"), tuple(4090, null), api.ErrLarge},
		{testkit.T("{ a: infer V; }"), tuple(4095, null), api.ErrLarge}, {testkit.T("A"), tuple(4095, null), api.OK},
	} {
		got, e := cond.Fill(x.p, cond.Found{Name: "V", Type: x.with})
		if e != x.e || (e == api.OK) != (got.Kind != 0) {
			t.Errorf("%s: %d, not %d", testkit.Text(x.p)[:10], e, x.e)
		}
	}
}

// P14.3
func TestWhatFollows(t *testing.T) {
	for _, s := range []string{"null", "[A, B]", "A | B", "{ a: number; }", "A extends infer V ? V : null", "<A extends infer V>(A) => A"} {
		p := testkit.T(s)
		if l, e := cond.Gather(testkit.T("[1, 2] | null"), p); len(l) != 0 || e != api.OK {
			t.Error(s, l)
		}
		if got, e := cond.Fill(p, cond.Found{Name: "V", Type: testkit.T("1")}); types.Order(got, p) != 0 || e != api.OK {
			t.Error(s, got)
		}
		l, _ := cond.Gather(p, testkit.T("infer X"))
		if told(l) != "X = "+s {
			t.Error(s, told(l))
		}
	}
}
