package sign_test

import (
	"hash/fnv"
	"strconv"
	"strings"
	"testing"

	"plinth/api"
	"plinth/pfile"
	"plinth/sign"
	"plinth/testkit"
	"plinth/tree"
)

func file(t *testing.T, s string) api.Node {
	t.Helper()
	n, diags, e := pfile.File(s)
	if len(diags) != 0 || e != api.OK {
		t.Fatal(s, diags, e)
	}
	return n
}

const whole = `import { a, b } from "f";
type A<T extends B> = T | 1;
export interface I<T> extends J, K<T> { a: T; mut b?: () => 1; }
export class C(a: A, b: B) extends D(a, 1 + b, { c: 1 }) implements I { mut a: A = f(1); b: B = { c: [2] }; m(a: A): B { return a; } n(): A { } }
class E() { }
class F() extends D() { }
function f(x: A): B;
function f(x: A): B { if (x) { return (): A => { return 1; }; } }
export const x: A = f((): A => { return 1; });
`

const bare = `import { a, b } from "f";
type A<T extends B> = T | 1;
export interface I<T> extends J, K<T> { a: T; mut b?: () => 1; }
export class C(a: A, b: B) extends D() implements I { mut a: A = null; b: B = null; m(a: A): B { } n(): A { } }
class E() { }
class F() extends D() { }
function f(x: A): B;
function f(x: A): B { }
export const x: A = null;
`

// P23.1
func TestOf(t *testing.T) {
	for _, x := range [][2]string{{whole, bare}, {"", ""}, {"const x: number = 1 + 2; function f(): null { return null; }", "const x: number = null;\nfunction f(): null { }\n"}} {
		if got, e := sign.Of(file(t, x[0])); got != x[1] || e != api.OK {
			t.Errorf("%d\n%s", e, got)
		}
	}
	for _, n := range []api.Node{{}, {Kind: api.DFile, N: 1}, {Kind: api.DFile, Parts: []api.Node{{Kind: api.DConst, Text: "a"}}}, {Kind: api.SBlock}} {
		if got, e := sign.Of(n); got != "" || e != api.ErrForm {
			t.Error(got, e)
		}
		if got, e := sign.Bare(n); got.Kind != 0 || e != api.ErrForm {
			t.Error(got, e)
		}
	}
}

// P23.1: the errors of what is left.
func TestLimits(t *testing.T) {
	typ := api.Node{Kind: api.YName, Text: "A"}
	for range 41 {
		typ = api.Node{Kind: api.YTuple, Parts: []api.Node{typ}}
	}
	deep := func(typ, value api.Node) api.Node {
		return api.Node{Kind: api.DFile, Parts: []api.Node{{Kind: api.DConst, Text: "a", Parts: []api.Node{typ, value}}}}
	}
	value := api.Node{Kind: api.ENull}
	for range 41 {
		value = api.Node{Kind: api.EArray, Parts: []api.Node{value}}
	}
	if got, e := sign.Of(deep(typ, value)); got != "" || e != api.ErrDeep {
		t.Error(got, e)
	}
	if got, e := sign.Bare(deep(typ, value)); got.Kind != api.DFile || e != api.OK {
		t.Error(got, e)
	}
	if got, e := sign.Of(deep(api.Node{Kind: api.YName, Text: "A"}, value)); got != "const a: A = null;\n" || e != api.OK {
		t.Error(got, e)
	}
	wide := make([]api.Node, 15000)
	for i := range wide {
		wide[i] = api.Node{Kind: api.DName, Text: "a"}
	}
	n := api.Node{Kind: api.DFile, Parts: []api.Node{{Kind: api.DImport, Parts: wide}}}
	if got, e := sign.Of(n); got != "" || e != api.ErrLarge {
		t.Error(len(got), e)
	}
}

// P23.1: the places that stay.
func TestBare(t *testing.T) {
	n := file(t, `const x: A = [1]; function f(a: A): B { return 1; } class C() extends D(x, y) { a: A = 1 + 2; m(): A { throw 1; } }`)
	before := testkit.Dump(n)
	got, e := sign.Bare(n)
	want := `DFile@0(DConst:x@0(Name:A@9 null@13) DFunc:f#1@18(Param:a@29(Name:A@32) Name:B@36 BLOCK@38) DClass:C@52(DExtends@70(Name:D@70) DHolds:a@80(Name:A@83 null@87) DMethod:m@94(Name:A@99 BLOCK@101)))`
	if testkit.Dump(got) != want || e != api.OK || !tree.File(got) {
		t.Errorf("%s %d", testkit.Dump(got), e)
	}
	extends := got.Parts[2].Parts[0]
	_ = append(extends.Parts, api.Node{Kind: api.ENull})
	if testkit.Dump(n) != before {
		t.Error("what was handed in is changed")
	}
}

// P23.2
func TestPrint(t *testing.T) {
	for s, want := range map[string]string{"": "cbf29ce484222325", "a": "af63dc4c8601ec8c"} {
		if got := sign.Print(s); got != want {
			t.Errorf("%q: %s", s, got)
		}
	}
	zeros := 0
	for i := range 2000 {
		s := strings.Repeat(strconv.Itoa(i)+"\xff\x00", i%7)
		h := fnv.New64a()
		h.Write([]byte(s))
		want := strconv.FormatUint(h.Sum64(), 16)
		want = strings.Repeat("0", 16-len(want)) + want
		if got := sign.Print(s + ""); got != want {
			t.Errorf("%q: %s, not %s", s, got, want)
		}
		h = fnv.New64a()
		h.Write([]byte(strconv.Itoa(i)))
		if h.Sum64()>>60 == 0 {
			zeros++
			if got := sign.Print(strconv.Itoa(i)); len(got) != 16 || got[0] != '0' {
				t.Error(got)
			}
		}
	}
	if zeros == 0 {
		t.Error("no leading zero was tried")
	}
}

// P23.3
func TestWhatFollows(t *testing.T) {
	s, _ := sign.Of(file(t, whole))
	if again, e := sign.Of(file(t, s)); again != s || e != api.OK {
		t.Error(again, e)
	}
	same := []string{
		strings.ReplaceAll(whole, " ", " /* x */\n "), strings.Replace(whole, "f(1)", "{ a: this }", 1), strings.Replace(whole, "return a;", "", 1), strings.Replace(whole, "a, 1 + b, { c: 1 }", "", 1), strings.Replace(whole, "if (x) { return (): A => { return 1; }; }", "throw 1; throw 2;", 1), strings.Replace(whole, "= f((): A => { return 1; })", "= 1", 1),
	}
	for i, x := range same {
		if got, e := sign.Of(file(t, x)); got != s || e != api.OK {
			t.Error(i, got, e)
		}
	}
	others := []string{
		strings.Replace(whole, "{ a, b }", "{ b, a }", 1), strings.Replace(whole, `"f"`, `"g"`, 1), strings.Replace(whole, "T | 1", "T | 2", 1), strings.Replace(whole, "mut b?", "b?", 1), strings.Replace(whole, "extends D(a", "extends D2(a", 1), strings.Replace(whole, "mut a: A", "a: A", 1), strings.Replace(whole, "n(): A", "n(): B", 1),
		strings.Replace(whole, "export const", "const", 1), strings.Replace(whole, "x: A = f", "x: B = f", 1), strings.Replace(whole, "function f(x: A): B;\n", "", 1), strings.Replace(whole, "class E() { }", "class E(a: A) { }", 1), whole + "type Z = 1;",
	}
	for i, x := range others {
		if got, e := sign.Of(file(t, x)); got == s || e != api.OK {
			t.Error(i, e)
		}
	}
}
