package pexpr_test

import (
	"strings"
	"testing"

	"plinth/api"
	"plinth/pexpr"
	"plinth/testkit"
	"plinth/tree"
)

// P6.1: expressions that are read, with all places.
func TestExpr(t *testing.T) {
	for _, x := range [][2]string{
		{"1", "num#1@0"},
		{"\"a\"", "str:a@0"},
		{"true", "true@0"},
		{"false", "false@0"},
		{"null", "null@0"},
		{"x", "name:x@0"},
		{"this", "this@0"},
		{"a + b * -c", "binary:+@0(name:a@0 binary:*@4(name:b@4 unary:-@8(name:c@9)))"},
		{"a.b(c)[0]!", "sure@0(index@0(call@0(member:b@0(name:a@0) name:c@4) num@7))"},
		{"(x: number): number => { return x; }", "func#1@0(Param:x@1(Name:number@4) Name:number@13 BLOCK@23(RETURN#1@25(name:x@32)))"},
		{"a ? b : c ? d : e", "cond@0(name:a@0 name:b@4 cond@8(name:c@8 name:d@12 name:e@16))"},
		{"x as A as B", "as@0(as@0(name:x@0 Name:A@5) Name:B@10)"},
		{"{a: 1}", "object@0(field:a@1(num#1@4))"},
		{"{}", "object@0"},
		{"{ a: 1, b: 2 }", "object@0(field:a@2(num#1@5) field:b@8(num#2@11))"},
		{"[]", "array@0"},
		{"[1, a]", "array@0(num#1@1 name:a@4)"},
		{"new C()", "new:C@0"},
		{"new C(1, x)", "new:C@0(num#1@6 name:x@9)"},
		{"a - b - c", "binary:-@0(binary:-@0(name:a@0 name:b@4) name:c@8)"},
		{"a - (b - c)", "binary:-@0(name:a@0 binary:-@5(name:b@5 name:c@9))"},
		{"a * b / c % d", "binary:%@0(binary:/@0(binary:*@0(name:a@0 name:b@4) name:c@8) name:d@12)"},
		{"a || b && c === d", "binary:||@0(name:a@0 binary:&&@5(name:b@5 binary:===@10(name:c@10 name:d@16)))"},
		{"a && b || c", "binary:||@0(binary:&&@0(name:a@0 name:b@5) name:c@10)"},
		{"a < b", "binary:<@0(name:a@0 name:b@4)"},
		{"a <= b", "binary:<=@0(name:a@0 name:b@5)"},
		{"a > b", "binary:>@0(name:a@0 name:b@4)"},
		{"a >= b === c", "binary:===@0(binary:>=@0(name:a@0 name:b@5) name:c@11)"},
		{"a !== b", "binary:!==@0(name:a@0 name:b@6)"},
		{"!a", "unary:!@0(name:a@1)"},
		{"!!a", "unary:!@0(unary:!@1(name:a@2))"},
		{"-1", "unary:-@0(num#1@1)"},
		{"- -1", "unary:-@0(unary:-@2(num#1@3))"},
		{"typeof a", "typeof@0(name:a@7)"},
		{"typeof -a", "typeof@0(unary:-@7(name:a@8))"},
		{"-a as T", "unary:-@0(as@1(name:a@1 Name:T@6))"},
		{"(-a) as T", "as@0(unary:-@1(name:a@2) Name:T@8)"},
		{"x as A[]", "as@0(name:x@0 Array@5(Name:A@5))"},
		{"x as keyof A", "as@0(name:x@0 Keyof@5(Name:A@11))"},
		{"x as A<B>", "as@0(name:x@0 Name:A@5(Name:B@7))"},
		{"(a)", "name:a@1"},
		{"((a)).b", "member:b@0(name:a@2)"},
		{"(a).b", "member:b@0(name:a@1)"},
		{"(a + b) * c", "binary:*@0(binary:+@1(name:a@1 name:b@5) name:c@10)"},
		{"(a + b)", "binary:+@1(name:a@1 name:b@5)"},
		{"f()", "call@0(name:f@0)"},
		{"f(1, 2)", "call@0(name:f@0 num#1@2 num#2@5)"},
		{"f(g)(h)", "call@0(call@0(name:f@0 name:g@2) name:h@5)"},
		{"a[b][c]", "index@0(index@0(name:a@0 name:b@2) name:c@5)"},
		{"a!!", "sure@0(sure@0(name:a@0))"},
		{"a!.b", "member:b@0(sure@0(name:a@0))"},
		{"a ! === b", "binary:===@0(sure@0(name:a@0) name:b@8)"},
		{"(): null => { }", "func@0(Name:null@4 BLOCK@12)"},
		{"(a: A, b: B): C => { }", "func#2@0(Param:a@1(Name:A@4) Param:b@7(Name:B@10) Name:C@14 BLOCK@19)"},
		{"(): () => A => { }", "func@0(Func@4(Name:A@10) BLOCK@15)"},
		{"(): (A) => { }", "func@0(Name:A@5 BLOCK@11)"},
		{"x ? (a) : b", "cond@0(name:x@0 name:a@5 name:b@10)"},
		{"x ? (y: A): B => { } : c", "cond@0(name:x@0 func#1@4(Param:y@5(Name:A@8) Name:B@12 BLOCK@17) name:c@23)"},
		{"1.a", "member:a@0(num#1@0)"},
		{"a as A + b", "binary:+@0(as@0(name:a@0 Name:A@5) name:b@9)"},
		{"typeof a === \"number\"", "binary:===@0(typeof@0(name:a@7) str:number@13)"},
		{"new C(1).a", "member:a@0(new:C@0(num#1@6))"},
		{" a", "name:a@1"},
		{"a + b - c", "binary:-@0(binary:+@0(name:a@0 name:b@4) name:c@8)"},
		{"{a: {b: 1}}.a", "member:a@0(object@0(field:a@1(object@4(field:b@5(num#1@8)))))"},
		{"(x as A) < b", "binary:<@0(as@1(name:x@1 Name:A@6) name:b@11)"},
		{"[(a)]", "array@0(name:a@2)"},
	} {
		n, at, e := pexpr.Expr(x[0])
		if got := testkit.Dump(n); got != x[1] || at != 0 || e != api.OK {
			t.Errorf("%q: %s %d %d", x[0], got, at, e)
		}
		if !tree.Expr(n) {
			t.Errorf("%q isn't formed", x[0])
		}
	}
}

// P6.1: blocks that are read, with all places.
func TestBlock(t *testing.T) {
	for _, x := range [][2]string{
		{"{ let x: A = 1; x = 2; a.b = c; }", "BLOCK@0(LET:x#1@2(Name:A@9 num#1@13) ASSIGN@16(name:x@16 num#2@20) ASSIGN@23(member:b@23(name:a@23) name:c@29))"},
		{"{ }", "BLOCK@0"},
		{"{ const a = 1; const b: B = 2; let c = 3; }", "BLOCK@0(CONST:a@2(num#1@12) CONST:b#1@15(Name:B@24 num#2@28) LET:c@31(num#3@39))"},
		{"{ if (a) { b; } }", "BLOCK@0(IF@2(name:a@6 BLOCK@9(EXPR@11(name:b@11))))"},
		{"{ if (a) { } else { } }", "BLOCK@0(IF#1@2(name:a@6 BLOCK@9 BLOCK@18))"},
		{"{ while (a) { } }", "BLOCK@0(WHILE@2(name:a@9 BLOCK@12))"},
		{"{ return; return a; throw b; }", "BLOCK@0(RETURN@2 RETURN#1@10(name:a@17) THROW@20(name:b@26))"},
		{"{ try { } catch (e) { } }", "BLOCK@0(TRY:e@2(BLOCK@6 BLOCK@20))"},
		{"{ { } { a; } }", "BLOCK@0(BLOCK@2 BLOCK@6(EXPR@8(name:a@8)))"},
		{"{ f(x); (a) = 1; (a).b = 2; ({}); a === b; }", "BLOCK@0(EXPR@2(call@2(name:f@2 name:x@4)) ASSIGN@8(name:a@9 num#1@14) ASSIGN@17(member:b@17(name:a@18) num#2@25) EXPR@28(object@29) EXPR@34(binary:===@34(name:a@34 name:b@40)))"},
		{"{ x; }", "BLOCK@0(EXPR@2(name:x@2))"},
		{"{ (a.b) = c; }", "BLOCK@0(ASSIGN@2(member:b@3(name:a@3) name:c@10))"},
		{"{ (): null => { return; }; }", "BLOCK@0(EXPR@2(func@2(Name:null@6 BLOCK@14(RETURN@16))))"},
		{"{ if (a) { } { } }", "BLOCK@0(IF@2(name:a@6 BLOCK@9) BLOCK@13)"},
	} {
		n, at, e := pexpr.Block(x[0])
		if got := testkit.Dump(n); got != x[1] || at != 0 || e != api.OK {
			t.Errorf("%q: %s %d %d", x[0], got, at, e)
		}
		if n.Kind != api.SBlock || !tree.Stat(n) {
			t.Errorf("%q isn't formed", x[0])
		}
	}
}

// P6.1: where the reading of an expression ends.
func TestWrongExpr(t *testing.T) {
	for _, x := range []struct {
		s  string
		at int
	}{
		{"a < b < c", 6},
		{"", 0},
		{"a +", 3},
		{"a b", 2},
		{"a === b === c", 8},
		{"a = b", 2},
		{"(a: b)", 6},
		{"(a: b) => { }", 7},
		{"(): A { }", 6},
		{"(): A =>", 8},
		{"(): A => a", 9},
		{"()", 2},
		{"a ? b", 5},
		{"a ? : c", 4},
		{"a.1", 2},
		{"a.type", 2},
		{"a.", 2},
		{"a[", 2},
		{"a[]", 2},
		{"a[b", 3},
		{"f(", 2},
		{"f(a,)", 4},
		{"f(a", 3},
		{"new", 3},
		{"new C", 5},
		{"new C.a()", 5},
		{"new number()", 4},
		{"[a,]", 3},
		{"{a}", 2},
		{"{a: 1,}", 6},
		{"{\"a\": 1}", 1},
		{"{a = 1}", 3},
		{"x as", 4},
		{"x as A < b", 10},
		{"x as A!", 6},
		{"x as A.b", 6},
		{"x as 1 2", 7},
		{"as A", 0},
		{"typeof", 6},
		{"!", 1},
		{"-", 1},
		{"+a", 0},
		{"a as A | B", 7},
		{"a ! b", 4},
		{"number", 0},
		{"@", 0},
		{"a..b", 2},
		{"a => b", 2},
		{"((a)", 4},
		{"(a", 2},
		{"(a,", 2},
		{"{ return 1; }", 2},
		{"a;", 1},
		{"a & b", 2},
		{"a | b", 2},
		{"(a)(", 4},
		{"x as A extends B ? C : D", 7},
		{"(a: A, ): B => { }", 7},
		{"function", 0},
		{"if", 0},
		{"a < b > c", 6},
		{"a <= b < c", 7},
		{"a !== b === c", 8},
		{"01", 0},
		{"(a b)", 3},
		{"(1: A): B => { }", 2},
	} {
		n, at, e := pexpr.Expr(x.s)
		if testkit.Dump(n) != "?0@0" || at != x.at || e != api.ErrSyntax {
			t.Errorf("%q: %s %d %d, not %d", x.s, testkit.Dump(n), at, e, x.at)
		}
	}
}

// P6.1: where the reading of a block ends.
func TestWrongBlock(t *testing.T) {
	for _, x := range []struct {
		s  string
		at int
	}{
		{"", 0},
		{"{", 1},
		{"{ 1 = 2; }", 4},
		{"{ f(x) = 1; }", 7},
		{"{ return }", 9},
		{"a", 0},
		{"{ } { }", 4},
		{"{ a }", 4},
		{"{ a = }", 6},
		{"{ a = b }", 8},
		{"{ a = b = c; }", 8},
		{"{ let a; }", 7},
		{"{ let a: A; }", 10},
		{"{ let = 1; }", 6},
		{"{ let a b; }", 8},
		{"{ const number = 1; }", 8},
		{"{ if a { } }", 5},
		{"{ if (a) b; }", 9},
		{"{ if (a) { } else b; }", 18},
		{"{ if (a) { } else if (b) { } }", 18},
		{"{ else { } }", 2},
		{"{ while () { } }", 9},
		{"{ while (a) b; }", 12},
		{"{ throw; }", 7},
		{"{ throw a }", 10},
		{"{ try { } }", 10},
		{"{ try { } catch { } }", 16},
		{"{ try { } catch (1) { } }", 17},
		{"{ try { } catch (e) }", 20},
		{"{ ; }", 2},
		{"{ a + b = c; }", 8},
		{"{ -a = c; }", 5},
		{"{ a[0] = c; }", 7},
		{"{ a! = c; }", 5},
		{"{ a as A = c; }", 9},
		{"{ { } = c; }", 6},
		{"{ (a ? b : c) = d; }", 14},
		{"{ {a: 1}; }", 4},
		{"{ type A = B; }", 2},
		{"{ return return; }", 9},
		{"{ a.b; c", 8},
		{"{ (a + b) = 1; }", 10},
		{"{ function f() { } }", 2},
		{"{ catch (e) { } }", 2},
		{"{ this = 1; }", 7},
		{"{ \"a\" = 1; }", 6},
	} {
		n, at, e := pexpr.Block(x.s)
		if testkit.Dump(n) != "?0@0" || at != x.at || e != api.ErrSyntax {
			t.Errorf("%q: %s %d %d, not %d", x.s, testkit.Dump(n), at, e, x.at)
		}
	}
}

// P6.1: each sign's level, told by which of two signs holds its parts together.
func TestLevels(t *testing.T) {
	levels := [][]string{{"||"}, {"&&"}, {"===", "!=="}, {"<", "<=", ">", ">="}, {"+", "-"}, {"*", "/", "%"}}
	for i, low := range levels {
		for j, high := range levels {
			for _, a := range low {
				for _, b := range high {
					s := "x " + a + " y " + b + " z"
					n, _, e := pexpr.Expr(s)
					once := i == j && (i == 2 || i == 3)
					top := b
					if i < j {
						top = a
					}
					if once && e != api.ErrSyntax || !once && (e != api.OK || n.Text != top) {
						t.Errorf("%s: %s %d", s, testkit.Shape(n), e)
					}
				}
			}
		}
	}
}

// P6.1: brackets, as deep as may be, and one more.
func TestDeep(t *testing.T) {
	deep := func(open, inner, shut string, count int) string {
		return strings.Repeat(open, count) + inner + strings.Repeat(shut, count)
	}
	for _, x := range []struct {
		s  string
		at int
		e  api.Errno
	}{
		{deep("(", "a", ")", 40), 0, api.OK},
		{deep("(", "a", ")", 41), 40, api.ErrDeep},
		{deep("[", "a", "]", 41), 40, api.ErrDeep},
		{deep("{a:", "1", "}", 40), 0, api.OK},
		{deep("{a:", "1", "}", 41), 120, api.ErrDeep},
		{deep("f(", "a", ")", 40), 0, api.OK},
		{deep("f(", "a", ")", 41), 81, api.ErrDeep},
		{deep("a[", "a", "]", 41), 81, api.ErrDeep},
		{deep("(", "new C()", ")", 40), 45, api.ErrDeep},
		{deep("(", "a as [A]", ")", 40), 45, api.ErrDeep},
		{deep("(", "a (b", ")", 40), 42, api.ErrDeep},
		{deep("(", "a {b", ")", 40), 42, api.ErrSyntax},
		{deep("(", "(): A => { }", ")", 39), 0, api.OK},
		{deep("(", "(): A => { { } }", ")", 39), 50, api.ErrDeep},
		{deep("(", "(): A => { if (a) { } }", ")", 39), 53, api.ErrDeep},
		{strings.Repeat("a(b)+", 100) + "c", 0, api.OK},
		{strings.Repeat("-", 5000) + "a", 0, api.OK},
	} {
		n, at, e := pexpr.Expr(x.s)
		if at != x.at || e != x.e || (e == api.OK) != tree.Expr(n) {
			t.Errorf("%.60q: %d %d, not %d %d", x.s, at, e, x.at, x.e)
		}
	}
	if _, at, e := pexpr.Block(strings.Repeat("{", 41)); at != 40 || e != api.ErrDeep {
		t.Error(at, e)
	}
	if n, at, e := pexpr.Block(strings.Repeat("{", 40) + strings.Repeat("}", 40)); at != 0 || e != api.OK || !tree.Stat(n) {
		t.Error(at, e)
	}
}

// P6.1: more tokens than scan takes.
func TestLarge(t *testing.T) {
	s := "a" + strings.Repeat("+a", api.MaxTokens/2-1)
	if n, at, e := pexpr.Expr(s); n.Kind != api.EBinary || at != 0 || e != api.OK {
		t.Error(n.Kind, at, e)
	}
	// With the last + there are MaxTokens tokens just so: the text is cut, and found to end too early.
	if n, at, e := pexpr.Expr(s + "+"); n.Kind != 0 || at != len(s)+1 || e != api.ErrSyntax {
		t.Error(n.Kind, at, e)
	}
	b := "{" + strings.Repeat("{}", api.MaxTokens/2-1) + "}"
	if n, at, e := pexpr.Block(b); n.Kind != api.SBlock || len(n.Parts) != api.MaxTokens/2-1 || at != 0 || e != api.OK {
		t.Error(n.Kind, at, e)
	}
	for _, many := range []string{
		s + "+a", s + "+ // a\n@", strings.Repeat("a+", api.MaxTokens/2+1), strings.Repeat("} ", api.MaxTokens+1), b + "{",
		strings.Repeat("{}", api.MaxTokens/2+1), strings.Repeat("(", api.MaxTokens+1), strings.Repeat("@ ", api.MaxTokens+1),
	} {
		if n, at, e := pexpr.Expr(many); n.Kind != 0 || len(n.Parts) != 0 || at != 0 || e != api.ErrLarge {
			t.Errorf("Expr %.9q: %d %d %d", many, n.Kind, at, e)
		}
		if n, at, e := pexpr.Block(many); n.Kind != 0 || len(n.Parts) != 0 || at != 0 || e != api.ErrLarge {
			t.Errorf("Block %.9q: %d %d %d", many, n.Kind, at, e)
		}
	}
}
