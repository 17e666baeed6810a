package show_test

import (
	"math/rand"
	"strings"
	"testing"

	"plinth/api"
	"plinth/pexpr"
	"plinth/pfile"
	"plinth/ptype"
	"plinth/show"
	"plinth/tree"
)

type node = api.Node

func n(kind int, text string, parts ...node) node {
	return node{Kind: kind, Text: text, Parts: parts}
}

// P8.1: each text is read, and told as the second one.
func TestTypes(t *testing.T) {
	for _, x := range [][2]string{
		{"A", "A"}, {"A<B,C<D>>", "A<B, C<D>>"}, {"number", "number"}, {"0", "0"}, {"9223372036854775807", "9223372036854775807"},
		{`"a\n\t\\\"("`, `"a\n\t\\\"("`}, {"A[]", "A[]"}, {"[]", "[]"}, {"[A,B]", "[A, B]"}, {"A[B]", "A[B]"},
		{"()=>A", "() => A"}, {"(a:A,b:B)=>C", "(a: A, b: B) => C"}, {"{}", "{ }"}, {"{a:A;mut b:B;c?:C;mut d?:D;}", "{ a: A; mut b: B; c?: C; mut d?: D; }"},
		{"{[K in A]:B}", "{ [K in A]: B }"}, {"{mut[K in A]?:B}", "{ mut [K in A]?: B }"}, {"{[K in A]?:B}", "{ [K in A]?: B }"}, {"{mut[K in A]:B}", "{ mut [K in A]: B }"},
		{"A|B|C", "A | B | C"}, {"A&B", "A & B"}, {"A&B|C", "A & B | C"}, {"A&(B|C)", "A & (B | C)"}, {"(A|B)|C", "(A | B) | C"}, {"A&(B&C)", "A & (B & C)"},
		{"keyof A", "keyof A"}, {"keyof A[]", "keyof A[]"}, {"(keyof A)[]", "(keyof A)[]"}, {"keyof keyof A", "keyof keyof A"}, {"keyof (A|B)", "keyof (A | B)"},
		{"(keyof A)&B", "keyof A & B"}, {"(keyof A)[B]", "(keyof A)[B]"}, {"A[keyof B]", "A[keyof B]"}, {"A[B|C]", "A[B | C]"}, {"A[B extends C?D:E]", "A[B extends C ? D : E]"},
		{"(A|B)[]", "(A | B)[]"}, {"(A&B)[C]", "(A & B)[C]"}, {"(()=>A)|B", "(() => A) | B"}, {"()=>A|B", "() => A | B"}, {"B|(()=>A)", "B | (() => A)"},
		{"(()=>A)[]", "(() => A)[]"}, {"keyof (()=>A)", "keyof (() => A)"}, {"()=>()=>A", "() => () => A"}, {"(a:(b:B)=>C)=>A", "(a: (b: B) => C) => A"},
		{"A extends B?C:D", "A extends B ? C : D"}, {"(A extends B?C:D)extends E?F:G", "(A extends B ? C : D) extends E ? F : G"},
		{"A extends(B extends C?D:E)?F:G", "A extends (B extends C ? D : E) ? F : G"}, {"A extends B?C extends D?E:F:G", "A extends B ? C extends D ? E : F : G"},
		{"A extends B?C:D extends E?F:G", "A extends B ? C : D extends E ? F : G"}, {"A|B extends C|D?()=>E:F|G", "A | B extends C | D ? () => E : F | G"},
		{"(()=>A)extends(()=>B)?C:D", "(() => A) extends (() => B) ? C : D"}, {"(A extends B?C:D)|E", "(A extends B ? C : D) | E"}, {"(A extends B?C:D)[]", "(A extends B ? C : D)[]"},
		{"infer V", "infer V"}, {"(infer V)[]", "infer V[]"}, {"A extends [infer V,infer W]?V:W", "A extends [infer V, infer W] ? V : W"},
		{"((A))", "A"}, {"[(A),(B|C)]", "[A, B | C]"}, {"A<(B)>", "A<B>"}, {"{a:(A);}", "{ a: A; }"},
	} {
		tr, _, e := ptype.Type(x[0])
		if e != api.OK {
			t.Fatal(x[0])
		}
		s, e := show.Type(tr)
		if s != x[1] || e != api.OK {
			t.Errorf("%q: %q %d, not %q", x[0], s, e, x[1])
		}
		if back, _, _ := ptype.Type(s); !tree.Same(back, tr) {
			t.Errorf("%q isn't read back", s)
		}
	}
}

// P8.1
func TestExprs(t *testing.T) {
	for _, x := range [][2]string{
		{"1", "1"}, {`"\""`, `"\""`}, {"true", "true"}, {"false", "false"}, {"null", "null"}, {"this", "this"}, {"a", "a"}, {"{}", "{ }"}, {"{a:1,b:{}}", "{ a: 1, b: { } }"},
		{"[]", "[]"}, {"[1,a]", "[1, a]"}, {"a.b", "a.b"}, {"a[b]", "a[b]"}, {"f()", "f()"}, {"f(a,b)", "f(a, b)"}, {"new C()", "new C()"}, {"new C(1,b)", "new C(1, b)"},
		{"():A=>{}", "(): A => { }"}, {"(a:A,b:B):C=>{return a;}", "(a: A, b: B): C => { return a; }"}, {"():()=>A=>{}", "(): () => A => { }"},
		{"-a", "-a"}, {"- -a", "--a"}, {"-(-a)", "--a"}, {"!a", "!a"}, {"!-a", "!-a"}, {"typeof a", "typeof a"}, {"typeof typeof a", "typeof typeof a"}, {"-typeof a", "-typeof a"},
		{"a+b+c", "a + b + c"}, {"a+(b+c)", "a + (b + c)"}, {"(a+b)*c", "(a + b) * c"}, {"a+b*c", "a + b * c"}, {"a*(b*c)", "a * (b * c)"}, {"a/b%c", "a / b % c"},
		{"a-(b-c)-d", "a - (b - c) - d"}, {"-(a+b)", "-(a + b)"}, {"-a+b", "-a + b"}, {"(-a)*b", "-a * b"}, {"a*-b", "a * -b"}, {"-(a*b)", "-(a * b)"},
		{"a<b", "a < b"}, {"(a<b)<c", "(a < b) < c"}, {"a<=(b>c)", "a <= (b > c)"}, {"a+b>=c", "a + b >= c"}, {"(a===b)===c", "(a === b) === c"}, {"a===(b!==c)", "a === (b !== c)"},
		{"a<b===c>d", "a < b === c > d"}, {"(a===b)<c", "(a === b) < c"}, {"a||b||c", "a || b || c"}, {"a||(b||c)", "a || (b || c)"}, {"a&&(b&&c)", "a && (b && c)"}, {"a&&b&&c", "a && b && c"},
		{"a&&b||c", "a && b || c"}, {"a&&(b||c)", "a && (b || c)"}, {"(a||b)&&c", "(a || b) && c"}, {"a===b&&c", "a === b && c"}, {"a===(b&&c)", "a === (b && c)"},
		{"a?b:c", "a ? b : c"}, {"(a?b:c)?d:e", "(a ? b : c) ? d : e"}, {"a?b?c:d:e", "a ? b ? c : d : e"}, {"a?b:c?d:e", "a ? b : c ? d : e"}, {"a||b?c:d", "a || b ? c : d"}, {"(a?b:c)||d", "(a ? b : c) || d"},
		{"a as A", "a as A"}, {"a as A as B", "a as A as B"}, {"a as(A|B)", "a as (A | B)"}, {"a as keyof A", "a as keyof A"}, {"a as(()=>A)", "a as (() => A)"}, {"a as(A&B)", "a as (A & B)"},
		{"a as A[]", "a as A[]"}, {"a as(A extends B?C:D)", "a as (A extends B ? C : D)"}, {"(-a)as A", "(-a) as A"}, {"-a as A", "-a as A"}, {"-(a as A)", "-a as A"}, {"(a+b)as A", "(a + b) as A"},
		{"(a as A).b", "(a as A).b"}, {"(a as A)[0]", "(a as A)[0]"}, {"(a as A)()", "(a as A)()"}, {"(a as A)!", "(a as A)!"}, {"a!as A", "a! as A"}, {"(typeof a)as A", "(typeof a) as A"},
		{"(a as A)<b", "(a as A) < b"}, {"(a as A)<=b", "a as A <= b"}, {"(a as A)>b", "a as A > b"}, {"a<(b as A)", "a < b as A"}, {"(-a as A)<b", "(-a as A) < b"}, {"(typeof a as A)<b", "(typeof a as A) < b"},
		{"(a+b as A)<c", "(a + b as A) < c"}, {"(a as A)+b<c", "a as A + b < c"}, {"a+(b*c as A)<d", "(a + b * c as A) < d"}, {"(a*-b as A)<c", "(a * -b as A) < c"}, {"((-a)as A)<b", "((-a) as A) < b"},
		{"(a as A).b<c", "(a as A).b < c"}, {"a+(b+(c as A))<d", "a + (b + c as A) < d"}, {"-(a+(b as A))<c", "-(a + b as A) < c"}, {"(a as A)===b", "a as A === b"},
		{"[a as A]", "[a as A]"}, {"f(a as A)", "f(a as A)"}, {"a[b as A]", "a[b as A]"}, {"(a as A)?b as B:c as C", "a as A ? b as B : c as C"},
		{"a!", "a!"}, {"a!!", "a!!"}, {"a!.b!", "a!.b!"}, {"!a!", "!a!"}, {"(!a)!", "(!a)!"}, {"(-a).b", "(-a).b"}, {"-a.b", "-a.b"}, {"(a+b).c", "(a + b).c"}, {"(a?b:c)()", "(a ? b : c)()"},
		{"1.x", "1.x"}, {"\"a\".b", "\"a\".b"}, {"({}).a", "{ }.a"}, {"[][0]", "[][0]"}, {"new C().a", "new C().a"}, {"(():A=>{})()", "(): A => { }()"}, {"((a))", "a"}, {"f((a))", "f(a)"},
	} {
		tr, _, e := pexpr.Expr(x[0])
		if e != api.OK {
			t.Fatal(x[0])
		}
		s, e := show.Expr(tr)
		if s != x[1] || e != api.OK {
			t.Errorf("%q: %q %d, not %q", x[0], s, e, x[1])
		}
		if back, _, _ := pexpr.Expr(s); !tree.Same(back, tr) {
			t.Errorf("%q isn't read back", s)
		}
	}
}

// P8.1
func TestStats(t *testing.T) {
	for _, s := range []string{
		"{ }", "{ a; }", "{ { } }", "{ const a: A = 1; const b = 2; let c: C = 3; let d = 4; }", "{ a = b; a.b = c; a[0].b = c; }", "{ throw a; return; return b; }",
		"{ if (a) { } if (a) { b; } else { c; } while (a) { } }", "{ try { } catch (e) { e; } }", "{ ({ }); ({ }.a); ({ } + a); ({ }[0]()! as A ? b : c); }",
		"{ ({ }.a) = b; ({ a: 1 }.b.c) = d; }", "{ a.b = { }; return { }; throw { }; }", "{ ({ } as A); ({ } ? a : b); -{ }; a + { }; [{ }]; }", "{ -{ }; typeof { }; }",
		"{ (a as A) < b; (a + b)(c); (a ? b : c).d = e; (a ? { } : c)!.d = e; }",
	} {
		tr, _, e := pexpr.Block(s)
		if e != api.OK {
			t.Fatal(s)
		}
		got, e := show.Stat(tr)
		if got != s || e != api.OK {
			t.Errorf("%q: %q %d", s, got, e)
		}
		if back, _, _ := pexpr.Block(got); !tree.Same(back, tr) {
			t.Errorf("%q isn't read back", s)
		}
	}
	for _, x := range []struct {
		n node
		s string
	}{
		{n(api.SReturn, ""), "return;"}, {n(api.SExpr, "", n(api.EObject, "")), "({ });"}, {n(api.SThrow, "", n(api.EName, "a")), "throw a;"},
		{n(api.SAssign, "", n(api.EMember, "a", n(api.EObject, "")), n(api.EObject, "")), "({ }.a) = { };"}, {n(api.SConst, "a", n(api.ENull, "")), "const a = null;"},
		{n(api.SExpr, "", n(api.EBinary, "+", n(api.EBinary, "+", n(api.EObject, ""), n(api.ENull, "")), n(api.ENull, ""))), "({ } + null + null);"},
		{n(api.SExpr, "", n(api.EMember, "a", n(api.EAs, "", n(api.EObject, ""), n(api.YName, "A")))), "({ } as A).a;"},
		{n(api.SExpr, "", n(api.EUnary, "-", n(api.EObject, ""))), "-{ };"},
	} {
		if s, e := show.Stat(x.n); s != x.s || e != api.OK {
			t.Errorf("%q %d, not %q", s, e, x.s)
		}
	}
}

const file = `import { a } from "f";
import { a, b } from "x\n";
type A = B;
export type C<T, U extends A | B, V> = T | U;
interface I { }
export interface J<T> extends I, K<T, A> { a: T; mut b?: U; }
interface L { a: () => A; }
class C() { }
export class D(a: A, b: B) extends C(a, [b]) implements I, J<A> { mut a: A = a; b: B = 1; f(): A { } g(x: A): B { return x; } }
class E() implements I { a: A = 1; }
class F() extends C() { f(): A { } }
function f(): A { }
export function g<T extends A, U>(a: T, b: U): { a: T; } { return { a: a }; }
function h(): A;
export function i<T>(a: T): () => T;
const x: A = 1;
export const y: (a: A) => B = (a: A): B => { return { b: 1 }; };
`

// P8.1
func TestFile(t *testing.T) {
	tr, diags, _ := pfile.File(strings.ReplaceAll(file, " ", "  "))
	if len(diags) != 0 {
		t.Fatal(diags)
	}
	s, e := show.File(tr)
	if s != file || e != api.OK {
		t.Errorf("%d:\n%s", e, s)
	}
	if s, e := show.File(n(api.DFile, "")); s != "" || e != api.OK {
		t.Error(s, e)
	}
}

// P8.1: what isn't formed.
func TestForm(t *testing.T) {
	a, x := n(api.YName, "A"), n(api.EName, "x")
	for _, w := range []node{{}, n(api.YName, ""), n(api.YUnion, "", a), n(api.EName, "number"), n(api.SExpr, ""), n(api.DFile, "", a), n(api.EAs, "", x, x), n(api.ECall, "")} {
		for i, f := range []func(node) (string, api.Errno){show.Type, show.Expr, show.Stat, show.File} {
			if s, e := f(w); s != "" || e != api.ErrForm {
				t.Error(w, i, s, e)
			}
		}
	}
	if _, e := show.Type(x); e != api.ErrForm {
		t.Error("an expression is no type")
	}
	if _, e := show.Expr(a); e != api.ErrForm {
		t.Error("a type is no expression")
	}
	if _, e := show.Stat(n(api.DFile, "")); e != api.ErrForm {
		t.Error("a file is no statement")
	}
	if _, e := show.File(n(api.SBlock, "")); e != api.ErrForm {
		t.Error("a block is no file")
	}
}

func wrap(kind, count int, x node) node {
	for range count {
		x = n(kind, "", x)
	}
	return x
}

// P8.1: brackets, as deep as may be, and one more; tokens, as many as may be, and one more.
func TestLimits(t *testing.T) {
	a, x := n(api.YName, "A"), n(api.EName, "x")
	expect := func(s string, e, want api.Errno) {
		t.Helper()
		if e != want || (s == "") != (e != api.OK) {
			t.Errorf("%d, not %d", e, want)
		}
	}
	tell := func(f func(node) (string, api.Errno), x node, want api.Errno) {
		t.Helper()
		s, e := f(x)
		expect(s, e, want)
	}
	tell(show.Type, wrap(api.YTuple, 40, a), api.OK)
	tell(show.Type, wrap(api.YTuple, 41, a), api.ErrDeep)
	tell(show.Type, wrap(api.YArray, 41, a), api.OK)
	tell(show.Type, wrap(api.YTuple, 40, n(api.YArray, "", a)), api.ErrDeep)
	tell(show.Type, wrap(api.YTuple, 39, n(api.YArray, "", n(api.YKeyof, "", a))), api.OK)
	tell(show.Type, wrap(api.YTuple, 40, n(api.YObject, "")), api.ErrDeep)
	tell(show.Type, wrap(api.YTuple, 40, n(api.YFunc, "", a)), api.ErrDeep)
	tell(show.Type, wrap(api.YTuple, 40, n(api.YStr, "[[[{{{(((")), api.OK)
	tell(show.Type, wrap(api.YTuple, 40, n(api.YName, "A", wrap(api.YTuple, 0, a))), api.OK)
	tell(show.Expr, wrap(api.EArray, 40, n(api.EStr, "(")), api.OK)
	tell(show.Expr, wrap(api.EArray, 40, n(api.ECall, "", x)), api.ErrDeep)
	tell(show.Expr, wrap(api.ECall, 100, x), api.OK)
	tell(show.Stat, wrap(api.SBlock, 40, n(api.SReturn, "")), api.OK)
	tell(show.Stat, wrap(api.SBlock, 41, n(api.SReturn, "")), api.ErrDeep)
	many := func(count int) node {
		l := make([]node, count)
		for i := range l {
			l[i] = a
		}
		return n(api.YUnion, "", l...)
	}
	tell(show.Type, many(api.MaxTokens/2), api.OK)
	tell(show.Type, many(api.MaxTokens/2+1), api.ErrLarge)
	tell(show.Type, n(api.YTuple, "", many(api.MaxTokens/2), wrap(api.YTuple, 41, a)), api.ErrDeep)
	wide := func(count int) node {
		l := make([]node, count)
		for i := range l {
			l[i] = n(api.DName, "a")
		}
		return n(api.DFile, "", n(api.DImport, "f", l...))
	}
	tell(show.File, wide((api.MaxTokens-5)/2), api.OK)
	tell(show.File, wide((api.MaxTokens-5)/2+1), api.ErrLarge)
	tell(show.File, wide(api.MaxTokens-2), api.ErrLarge)
	tell(show.File, wide(api.MaxTokens-1), api.ErrForm)
}

// maker makes trees that are formed.
type maker struct{ *rand.Rand }

func (m maker) name() node { return node{Text: []string{"a", "B", "c_1", "$"}[m.Intn(4)]} }

func (m maker) named(kind int, parts ...node) node { return n(kind, m.name().Text, parts...) }

func (m maker) some(most int, one func() node) []node {
	l := make([]node, m.Intn(most+1))
	for i := range l {
		l[i] = one()
	}
	return l
}

func (m maker) param(d int) func() node {
	return func() node { return m.named(api.YParam, m.typ(d)) }
}

func (m maker) typ(d int) node {
	if d <= 0 {
		return []node{m.named(api.YName), n(api.YName, "null"), {Kind: api.YNum, N: m.Int63()}, n(api.YStr, "\"\\\n(é"), m.named(api.YInfer)}[m.Intn(5)]
	}
	sub := func() node { return m.typ(d - 1 - m.Intn(2)) }
	switch m.Intn(11) {
	case 0:
		return m.named(api.YName, m.some(2, sub)...)
	case 1:
		return n(api.YArray, "", sub())
	case 2:
		return n(api.YTuple, "", m.some(3, sub)...)
	case 3:
		return n(api.YFunc, "", append(m.some(2, m.param(d-1)), sub())...)
	case 4:
		return n(api.YObject, "", m.some(2, func() node { f := m.named(api.YField, sub()); f.N = int64(m.Intn(4)); return f })...)
	case 5:
		return n(api.YUnion, "", append(m.some(2, sub), sub(), sub())...)
	case 6:
		return n(api.YBoth, "", append(m.some(1, sub), sub(), sub())...)
	case 7:
		return n(api.YKeyof, "", sub())
	case 8:
		return n(api.YIndex, "", sub(), sub())
	case 9:
		x := m.named(api.YMapped, sub(), sub())
		x.N = int64(m.Intn(4))
		return x
	}
	return n(api.YCond, "", sub(), sub(), sub(), sub())
}

func (m maker) routine(kind, d int, vars []node, block bool) node {
	params := m.some(2, m.param(1))
	l := append(append(vars, params...), m.typ(1))
	if block {
		l = append(l, m.block(d-1))
	}
	x := m.named(kind, l...)
	x.N = int64(len(params))
	return x
}

func (m maker) expr(d int) node {
	if d <= 0 {
		return []node{m.named(api.EName), n(api.ENull, ""), {Kind: api.ENum, N: m.Int63()}, n(api.EStr, "{\t"), n(api.EObject, ""), n(api.EArray, ""), n(api.EThis, ""), n(api.ETrue, ""), n(api.EFalse, "")}[m.Intn(9)]
	}
	sub := func() node { return m.expr(d - 1 - m.Intn(2)) }
	signs := []string{"+", "-", "*", "/", "%", "<", "<", "<", "<=", ">", ">=", "===", "!==", "&&", "||"}
	switch m.Intn(16) {
	case 0:
		return n(api.EObject, "", m.some(2, func() node { return m.named(api.EField, sub()) })...)
	case 1:
		return n(api.EArray, "", m.some(2, sub)...)
	case 2:
		return m.named(api.EMember, sub())
	case 3:
		return n(api.EIndex, "", sub(), sub())
	case 4:
		return n(api.ECall, "", append([]node{sub()}, m.some(2, sub)...)...)
	case 5:
		return m.named(api.ENew, m.some(2, sub)...)
	case 6:
		x := m.routine(api.EFunc, d, nil, true)
		x.Text = ""
		return x
	case 7:
		return n(api.EUnary, []string{"-", "!"}[m.Intn(2)], sub())
	case 8:
		return n(api.ECond, "", sub(), sub(), sub())
	case 9, 10:
		return n(api.EAs, "", sub(), m.typ(2))
	case 11:
		return n(api.ESure, "", sub())
	case 12:
		return n(api.ETypeof, "", sub())
	}
	return n(api.EBinary, signs[m.Intn(len(signs))], sub(), sub())
}

func (m maker) block(d int) node {
	return n(api.SBlock, "", m.some(3, func() node { return m.stat(d) })...)
}

func (m maker) stat(d int) node {
	x := m.expr(d)
	switch m.Intn(10) {
	case 0:
		return m.named(api.SConst, x)
	case 1:
		s := m.named(api.SLet, m.typ(1), x)
		s.N = 1
		return s
	case 2:
		return n(api.SAssign, "", m.named(api.EMember, x), x)
	case 3:
		s := n(api.SIf, "", x, m.block(d-1), m.block(d-1))
		s.N = 1
		return s
	case 4:
		return n(api.SIf, "", x, m.block(d-1))
	case 5:
		return n(api.SWhile, "", x, m.block(d-1))
	case 6:
		s := n(api.SReturn, "", x)
		s.N = 1
		return s
	case 7:
		return m.named(api.STry, m.block(d-1), m.block(d-1))
	}
	return n(api.SExpr, "", x)
}

func (m maker) variable() node {
	if m.Intn(2) == 0 {
		return m.named(api.DVar)
	}
	v := m.named(api.DVar, m.typ(1))
	v.N = 1
	return v
}

func (m maker) ref(kind int) func() node {
	return func() node { return n(kind, "", m.named(api.YName, m.some(1, func() node { return m.typ(1) })...)) }
}

func (m maker) class() node {
	params := m.some(2, m.param(1))
	l := append([]node{}, params...)
	if m.Intn(2) == 0 {
		l = append(l, n(api.DExtends, "", append([]node{m.named(api.YName)}, m.some(2, func() node { return m.expr(1) })...)...))
	}
	l = append(l, m.some(2, m.ref(api.DMeets))...)
	l = append(l, m.some(2, func() node {
		h := m.named(api.DHolds, m.typ(1), m.expr(1))
		h.N = int64(m.Intn(2))
		return h
	})...)
	l = append(l, m.some(2, func() node { return m.routine(api.DMethod, 2, nil, true) })...)
	x := m.named(api.DClass, l...)
	x.N = int64(len(params))
	return x
}

func (m maker) decl() node {
	vars := m.some(2, m.variable)
	x := m.named(api.DConst, m.typ(2), m.expr(3))
	switch m.Intn(7) {
	case 0:
		return n(api.DImport, "a\"b", m.named(api.DName), m.named(api.DName))
	case 1:
		x = m.named(api.DType, append(vars, m.typ(3))...)
		x.N = int64(len(vars))
	case 2:
		l := append(append([]node{}, vars...), m.some(2, m.ref(api.DExtends))...)
		x = m.named(api.DInterface, append(l, m.some(2, func() node { return m.named(api.YField, m.typ(2)) })...)...)
		x.N = int64(len(vars))
	case 3:
		x = m.class()
	case 4:
		x = m.routine(api.DFunc, 3, vars, true)
	case 5:
		x = m.routine(api.DOver, 3, vars, false)
	}
	x.M = int64(m.Intn(2))
	return x
}

// P8.2
func TestReadBack(t *testing.T) {
	m := maker{rand.New(rand.NewSource(8))}
	for range 4000 {
		x := m.typ(4)
		s, e := show.Type(x)
		if e == api.OK {
			if back, at, _ := ptype.Type(s); !tree.Same(back, x) {
				t.Fatalf("%q at %d", s, at)
			}
		}
		x = m.expr(4)
		s, e = show.Expr(x)
		if e == api.OK {
			if back, at, _ := pexpr.Expr(s); !tree.Same(back, x) {
				t.Fatalf("%q at %d", s, at)
			}
		}
		x = m.block(3)
		s, e = show.Stat(x)
		if e == api.OK {
			if back, at, _ := pexpr.Block(s); !tree.Same(back, x) {
				t.Fatalf("%q at %d", s, at)
			}
		}
		x = n(api.DFile, "", m.some(3, m.decl)...)
		s, e = show.File(x)
		if e == api.OK {
			if back, diags, _ := pfile.File(s); !tree.Same(back, x) || len(diags) != 0 {
				t.Fatalf("%q: %v", s, diags)
			}
		}
		if !tree.File(x) || e == api.ErrForm {
			t.Fatal("a tree that isn't formed")
		}
	}
}
