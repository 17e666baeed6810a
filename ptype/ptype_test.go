package ptype_test

import (
	"strings"
	"testing"

	"plinth/api"
	"plinth/ptype"
	"plinth/testkit"
	"plinth/tree"
)

// P5.1: what is read, with all places.
func TestRead(t *testing.T) {
	for _, x := range [][2]string{
		{"A", "Name:A@0"},
		{"number", "Name:number@0"},
		{"5", "Num#5@0"},
		{"\"a\\n\"", "Str:a\n@0"},
		{"A | B & C[]", "Union@0(Name:A@0 Both@4(Name:B@4 Array@8(Name:C@8)))"},
		{"(x: A) => B | C", "Func@0(Param:x@1(Name:A@4) Union@10(Name:B@10 Name:C@14))"},
		{"A extends B ? C : D extends E ? F : G", "Cond@0(Name:A@0 Name:B@10 Name:C@14 Cond@18(Name:D@18 Name:E@28 Name:F@32 Name:G@36))"},
		{"{ mut a?: number; }", "Object@0(Field:a#3@2(Name:number@10))"},
		{"{ [K in keyof T]?: T[K] }", "Mapped:K#1@0(Keyof@8(Name:T@14) Index@19(Name:T@19 Name:K@21))"},
		{"{ mut [K in T]: U }", "Mapped:K#2@0(Name:T@12 Name:U@16)"},
		{"{ mut [K in T]?: U }", "Mapped:K#3@0(Name:T@12 Name:U@17)"},
		{"Box<A, B>[]", "Array@0(Name:Box@0(Name:A@4 Name:B@7))"},
		{"[]", "Tuple@0"},
		{"[A, B]", "Tuple@0(Name:A@1 Name:B@4)"},
		{"{ }", "Object@0"},
		{"{ a: A; b?: B; mut c: C; }", "Object@0(Field:a@2(Name:A@5) Field:b#1@8(Name:B@12) Field:c#2@15(Name:C@22))"},
		{"() => A", "Func@0(Name:A@6)"},
		{"(a: A, b: B) => C", "Func@0(Param:a@1(Name:A@4) Param:b@7(Name:B@10) Name:C@16)"},
		{"(A)", "Name:A@1"},
		{"((A))[]", "Array@0(Name:A@2)"},
		{"(A | B)", "Union@1(Name:A@1 Name:B@5)"},
		{"(A) | B", "Union@0(Name:A@1 Name:B@6)"},
		{"((A) | B)", "Union@1(Name:A@2 Name:B@7)"},
		{"A[B][]", "Array@0(Index@0(Name:A@0 Name:B@2))"},
		{"keyof A[]", "Keyof@0(Array@6(Name:A@6))"},
		{"keyof keyof A", "Keyof@0(Keyof@6(Name:A@12))"},
		{"(keyof A)[]", "Array@0(Keyof@1(Name:A@7))"},
		{"infer V", "Infer:V@0"},
		{"infer V[]", "Array@0(Infer:V@0)"},
		{"A extends infer V ? V : never", "Cond@0(Name:A@0 Infer:V@10 Name:V@20 Name:never@24)"},
		{"A | B | C", "Union@0(Name:A@0 Name:B@4 Name:C@8)"},
		{"(A | B) | C", "Union@0(Union@1(Name:A@1 Name:B@5) Name:C@10)"},
		{"A<B<C>>", "Name:A@0(Name:B@2(Name:C@4))"},
		{" A", "Name:A@1"},
		{"( A ) [ ]", "Array@0(Name:A@2)"},
		{"(() => A) | B", "Union@0(Func@1(Name:A@7) Name:B@12)"},
		{"() => () => A", "Func@0(Func@6(Name:A@12))"},
		{"{ a: { b: C; }; }", "Object@0(Field:a@2(Object@5(Field:b@7(Name:C@10))))"},
		{"A extends B | C ? D : E", "Cond@0(Name:A@0 Union@10(Name:B@10 Name:C@14) Name:D@18 Name:E@22)"},
		{"(A extends B ? C : D)[]", "Array@0(Cond@1(Name:A@1 Name:B@11 Name:C@15 Name:D@19))"},
		{"[A[], (B)]", "Tuple@0(Array@1(Name:A@1) Name:B@7)"},
		{"any", "Name:any@0"},
		{"[unknown, never, null, boolean, string, true, false]",
			"Tuple@0(Name:unknown@1 Name:never@10 Name:null@17 Name:boolean@23 Name:string@32 Name:true@40 Name:false@46)"},
		{"/* x */ A // y", "Name:A@8"},
	} {
		n, at, e := ptype.Type(x[0])
		if got := testkit.Dump(n); got != x[1] || at != 0 || e != api.OK {
			t.Errorf("%q: %s %d %d", x[0], got, at, e)
		}
		if !tree.Type(n) {
			t.Errorf("%q isn't formed", x[0])
		}
	}
}

// P5.1: where reading ends.
func TestWrong(t *testing.T) {
	for _, x := range []struct {
		s  string
		at int
	}{
		{"", 0},
		{" ", 1},
		{"A |", 3},
		{"A B", 2},
		{"((A)", 4},
		{"A<", 2},
		{"A<>", 2},
		{"A<B", 3},
		{"A<B,>", 4},
		{"number<A>", 6},
		{"(", 1},
		{"()", 2},
		{"() =", 3},
		{"() A", 3},
		{"(a", 2},
		{"(a:", 3},
		{"(a: A", 5},
		{"(a: A) B", 7},
		{"(a: A,) => B", 6},
		{"(A, B)", 2},
		{"[A,]", 3},
		{"[A", 2},
		{"A[", 2},
		{"A[B", 3},
		{"A[]]", 3},
		{"{", 1},
		{"{ a", 3},
		{"{ a: A }", 7},
		{"{ a: A; ", 8},
		{"{ mut }", 6},
		{"{ mut [K of T]: U }", 9},
		{"{ [K in T]: U; }", 13},
		{"{ a: A; [K in T]: U }", 8},
		{"{ a: A; mut [", 12},
		{"{ [number in T]: U }", 3},
		{"{ type: A; }", 2},
		{"keyof", 5},
		{"infer", 5},
		{"infer number", 6},
		{"A extends", 9},
		{"A extends B", 11},
		{"A extends B ?", 13},
		{"A extends B ? C", 15},
		{"A extends B ? C :", 17},
		{"A extends B extends C ? D : E", 12},
		{"A &", 3},
		{"A & | B", 4},
		{"| A", 0},
		{"01", 0},
		{"@", 0},
		{"\"a", 0},
		{"this", 0},
		{"A.b", 1},
		{"A!", 1},
		{"(x: A) =>", 9},
		{"=>", 0},
		{"A =>", 2},
		{"typeof a", 0},
		{"A || B", 2},
		{"A && B", 2},
		{"...A", 0},
	} {
		n, at, e := ptype.Type(x.s)
		if testkit.Dump(n) != "?0@0" || at != x.at || e != api.ErrSyntax {
			t.Errorf("%q: %s %d %d, not %d", x.s, testkit.Dump(n), at, e, x.at)
		}
	}
}

// P5.1: brackets, as deep as may be, and one more.
func TestDeep(t *testing.T) {
	deep := func(open, inner, shut string, count int) string {
		return strings.Repeat(open, count) + inner + strings.Repeat(shut, count)
	}
	for _, x := range []struct {
		s  string
		at int
		e  api.Errno
	}{
		{deep("(", "A", ")", 40), 0, api.OK},
		{deep("(", "A", ")", 41), 40, api.ErrDeep},
		{strings.Repeat("(", 41), 40, api.ErrDeep},
		{strings.Repeat("(", 40), 40, api.ErrSyntax},
		{deep("[", "A", "]", 40), 0, api.OK},
		{deep("[", "[]", "]", 39), 0, api.OK},
		{deep("[", "[]", "]", 40), 40, api.ErrDeep},
		{deep("{a:", "A", ";}", 40), 0, api.OK},
		{deep("{a:", "A", ";}", 41), 120, api.ErrDeep},
		{deep("(", "A[]", ")", 40), 41, api.ErrDeep},
		{deep("(", "A[]", ")", 39), 0, api.OK},
		{deep("(", "()=>A", ")", 39), 0, api.OK},
		{deep("(", "()=>A", ")", 40), 40, api.ErrDeep},
		{deep("(", "A {", ")", 40), 42, api.ErrSyntax},
		{deep("(a:", "A", ")=>B", 41), 120, api.ErrDeep},
		{deep("A<", "B", ">", 500), 0, api.OK},
		{strings.Repeat("A[][][]|", 100) + "A", 0, api.OK},
		{strings.Repeat("keyof ", 5000) + "A", 0, api.OK},
		{strings.Repeat("(", 40) + "[", 40, api.ErrDeep},
	} {
		n, at, e := ptype.Type(x.s)
		if at != x.at || e != x.e || (e == api.OK) != tree.Type(n) {
			t.Errorf("%.60q: %d %d, not %d %d", x.s, at, e, x.at, x.e)
		}
	}
}

// P5.1: more tokens than scan takes.
func TestLarge(t *testing.T) {
	s := "A" + strings.Repeat("|A", api.MaxTokens/2-1)
	if n, at, e := ptype.Type(s); len(n.Parts) != api.MaxTokens/2 || at != 0 || e != api.OK {
		t.Error(len(n.Parts), at, e)
	}
	// With the last | there are MaxTokens tokens just so: the text is cut, and found to end too early.
	if n, at, e := ptype.Type(s + "|"); n.Kind != 0 || at != len(s)+1 || e != api.ErrSyntax {
		t.Error(n.Kind, at, e)
	}
	for _, many := range []string{
		s + "|A", s + "| // A\n@", strings.Repeat("A|", api.MaxTokens/2+1), strings.Repeat("@ ", api.MaxTokens+1),
		strings.Repeat("(", api.MaxTokens+1), strings.Repeat("A ", api.MaxTokens+1), strings.Repeat("\"\"", api.MaxTokens+1),
	} {
		if n, at, e := ptype.Type(many); n.Kind != 0 || len(n.Parts) != 0 || at != 0 || e != api.ErrLarge {
			t.Errorf("%.9q: %d %d %d", many, n.Kind, at, e)
		}
	}
}
