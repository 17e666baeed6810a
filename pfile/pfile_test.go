package pfile_test

import (
	"slices"
	"strconv"
	"strings"
	"testing"

	"plinth/api"
	"plinth/pfile"
	"plinth/testkit"
	"plinth/tree"
)

// said tells Diags as code:place.
func said(l []api.Diag) string {
	var out []string
	for _, d := range l {
		s := strconv.Itoa(d.Code) + ":" + strconv.Itoa(d.At)
		if d.File != "" || d.Text != "" {
			s += "?"
		}
		out = append(out, s)
	}
	return strings.Join(out, " ")
}

var files = [][3]string{
	{"", "DFile@0", ""},
	{" // x", "DFile@0", ""},
	{"type A = number; export const x: A = 1;", "DFile@0(DType:A@0(Name:number@9) DConst:x!1@17(Name:A@33 num#1@37))", ""},
	{"type A = ; const x: A = 1;", "DFile@0(DConst:x@11(Name:A@20 num#1@24))", "1:9"},
	{"class C(x: A) extends B(x) implements I { mut a: A = x; f(): A { return this.a; } }", "DFile@0(DClass:C#1@0(Param:x@8(Name:A@11) DExtends@22(Name:B@22 name:x@24) DMeets@38(Name:I@38) DHolds:a#1@42(Name:A@49 name:x@53) DMethod:f@56(Name:A@61 BLOCK@63(RETURN#1@65(member:a@72(this@72))))))", ""},
	{"function f { if (a) { b } } const y: A = 2;", "DFile@0(DConst:y@28(Name:A@37 num#2@41))", "1:11"},
	{"function f(x: A): A; function f(x: A): A { return x; }", "DFile@0(DOver:f#1@0(Param:x@11(Name:A@14) Name:A@18) DFunc:f#1@21(Param:x@32(Name:A@35) Name:A@39 BLOCK@41(RETURN#1@43(name:x@50))))", ""},
	{"x", "DFile@0", "1:0"},
	{"type A = { b: c;", "DFile@0", "1:16"},
	{"import { a, b } from \"f\"; import { c } from \"\";", "DFile@0(DImport:f@0(DName:a@9 DName:b@12) DImport@26(DName:c@35))", ""},
	{"export type A<T, U extends B> = T;", "DFile@0(DType:A#2!1@0(DVar:T@14 DVar:U#1@17(Name:B@27) Name:T@32))", ""},
	{"interface I { }", "DFile@0(DInterface:I@0)", ""},
	{"export interface I<T> extends J, K<T, L> { a: T; mut b?: U; }", "DFile@0(DInterface:I#1!1@0(DVar:T@19 DExtends@30(Name:J@30) DExtends@33(Name:K@33(Name:T@35 Name:L@38)) Field:a@43(Name:T@46) Field:b#3@49(Name:U@57)))", ""},
	{"class C() { }", "DFile@0(DClass:C@0)", ""},
	{"export class C(a: A, b: B) extends D() implements I, J<A> { x: A = 1; m(): A { } n(y: B): C { } }", "DFile@0(DClass:C#2!1@0(Param:a@15(Name:A@18) Param:b@21(Name:B@24) DExtends@35(Name:D@35) DMeets@50(Name:I@50) DMeets@53(Name:J@53(Name:A@55)) DHolds:x@60(Name:A@63 num#1@67) DMethod:m@70(Name:A@75 BLOCK@77) DMethod:n#1@81(Param:y@83(Name:B@86) Name:C@90 BLOCK@92)))", ""},
	{"class C() implements I { }", "DFile@0(DClass:C@0(DMeets@21(Name:I@21)))", ""},
	{"class C() extends D(1, 2) { m(): A { } }", "DFile@0(DClass:C@0(DExtends@18(Name:D@18 num#1@20 num#2@23) DMethod:m@28(Name:A@33 BLOCK@35)))", ""},
	{"export function f<T extends A, U>(x: T, y: U): V { }", "DFile@0(DFunc:f#2!1@0(DVar:T#1@18(Name:A@28) DVar:U@31 Param:x@34(Name:T@37) Param:y@40(Name:U@43) Name:V@47 BLOCK@49))", ""},
	{"function f(): A;", "DFile@0(DOver:f@0(Name:A@14))", ""},
	{"export const x: number = 1;", "DFile@0(DConst:x!1@0(Name:number@16 num#1@25))", ""},
	{"const f: () => A = (): A => { };", "DFile@0(DConst:f@0(Func@9(Name:A@15) func@19(Name:A@23 BLOCK@28)))", ""},
	{"x y z", "DFile@0", "1:0"},
	{"; ;", "DFile@0", "1:0 1:2"},
	{"}", "DFile@0", "1:0"},
	{"} }", "DFile@0", "1:0 1:2"},
	{"{ } const a: A = 1;", "DFile@0(DConst:a@4(Name:A@13 num#1@17))", "1:0"},
	{"{ ; ; } const a: A = 1;", "DFile@0(DConst:a@8(Name:A@17 num#1@21))", "1:0"},
	{"{ { } ; } const a: A = 1;", "DFile@0(DConst:a@10(Name:A@19 num#1@23))", "1:0"},
	{"( ; const a: A = 1;", "DFile@0(DConst:a@4(Name:A@13 num#1@17))", "1:0"},
	{"export import { a } from \"b\"; const a: A = 1;", "DFile@0(DConst:a@30(Name:A@39 num#1@43))", "1:7 1:20"},
	{"import { } from \"a\";", "DFile@0", "1:9 1:11"},
	{"import { a } from b; const a: A = 1;", "DFile@0(DConst:a@21(Name:A@30 num#1@34))", "1:18"},
	{"import { a, } from \"a\";", "DFile@0", "1:12 1:14"},
	{"import a from \"a\";", "DFile@0", "1:7"},
	{"export", "DFile@0", "1:6"},
	{"export x;", "DFile@0", "1:7"},
	{"const a: A;", "DFile@0", "1:10"},
	{"const a = 1;", "DFile@0", "1:8"},
	{"const a: A = 1", "DFile@0", "1:14"},
	{"const a: A = ;", "DFile@0", "1:13"},
	{"let a: A = 1;", "DFile@0", "1:0"},
	{"type A<> = B;", "DFile@0", "1:7"},
	{"type A<T extends> = B;", "DFile@0", "1:16"},
	{"type A B;", "DFile@0", "1:7"},
	{"interface I { a: A }", "DFile@0", "1:19"},
	{"interface I extends { }", "DFile@0", "1:20"},
	{"interface I extends number { }", "DFile@0", "1:20"},
	{"interface I implements J { }", "DFile@0", "1:12"},
	{"class C { }", "DFile@0", "1:8"},
	{"class C() extends D { }", "DFile@0", "1:20"},
	{"class C() extends D<A>() { }", "DFile@0", "1:19"},
	{"class C() implements { }", "DFile@0", "1:21"},
	{"class C() extends D(), E() { }", "DFile@0", "1:21"},
	{"class C() { m(): A { } a: A = 1; } const x: A = 1;", "DFile@0(DConst:x@35(Name:A@44 num#1@48))", "1:24 1:33"},
	{"class C() { m(): A { } mut a: A = 1; } const x: A = 1;", "DFile@0(DConst:x@39(Name:A@48 num#1@52))", "1:23 1:37"},
	{"class C() { mut m(): A { } } const x: A = 1;", "DFile@0(DConst:x@29(Name:A@38 num#1@42))", "1:17 1:27"},
	{"class C() { a: A; } const x: A = 1;", "DFile@0(DConst:x@20(Name:A@29 num#1@33))", "1:16 1:18"},
	{"class C() { a = 1; }", "DFile@0", "1:14 1:19"},
	{"class C<T>() { }", "DFile@0", "1:7"},
	{"class C() { m(); }", "DFile@0", "1:15 1:17"},
	{"function f() { }", "DFile@0", "1:13"},
	{"function f(): A = 1;", "DFile@0", "1:16"},
	{"function (): A { }", "DFile@0", "1:9"},
	{"function f<T>(): A { } }", "DFile@0(DFunc:f@0(DVar:T@11 Name:A@17 BLOCK@19))", "1:23"},
	{"const a: A = { b: }; const c: A = 1;", "DFile@0(DConst:c@21(Name:A@30 num#1@34))", "1:18 1:19"},
	{"const a: A = { b: } const c: A = 1; const d: A = 1;", "DFile@0(DConst:c@20(Name:A@29 num#1@33) DConst:d@36(Name:A@45 num#1@49))", "1:18"},
	{"const x: A = (): A => { return 1 }; const y: A = 1;", "DFile@0(DConst:y@36(Name:A@45 num#1@49))", "1:33 1:34"},
	{"type A = ((((((((((((((((((((((((((((((((((((((((((B; const y: A = 1;", "DFile@0(DConst:y@54(Name:A@63 num#1@67))", "2:49"},
	{"const a: A = {{ } ; const y: A = 1;", "DFile@0(DConst:y@20(Name:A@29 num#1@33))", "1:14 1:18"},
	{"@ const a: A = 1; const b: A = 1;", "DFile@0(DConst:b@18(Name:A@27 num#1@31))", "1:0"},
	{"type A = \"x; const y: A = 1;\ntype B = A;", "DFile@0", "1:9"},
	{"function f(): A { a b { c } ; } const x: A = 1;", "DFile@0(DConst:x@32(Name:A@41 num#1@45))", "1:20 1:28 1:30"},
	{"function f(): A { return 1; } type B = A;", "DFile@0(DFunc:f@0(Name:A@14 BLOCK@16(RETURN#1@18(num#1@25))) DType:B@30(Name:A@39))", ""},
	{"if (a) { } const x: A = 1;", "DFile@0(DConst:x@11(Name:A@20 num#1@24))", "1:0"},
	{"interface I { a: A; a: B; } interface I { }", "DFile@0(DInterface:I@0(Field:a@14(Name:A@17) Field:a@20(Name:B@23)) DInterface:I@28)", ""},
	{"type number = A;", "DFile@0", "1:5"},
	{"type A = B; type", "DFile@0(DType:A@0(Name:B@9))", "1:16"},
	{"import { a } from \"b\" const x: A = 1; const y: A = 1;", "DFile@0(DConst:y@38(Name:A@47 num#1@51))", "1:22"},
	{"type A = [[[[[[[[[[ [[[[[[[[[[ [[[[[[[[[[ [[[[[[[[[[ B ]]]]]]]]]] ]]]]]]]]]] ]]]]]]]]]] ]]]]]]]]]]; type B = ((A));",
		"DFile@0(DType:A@0(" + deepTuple(40) + ") DType:B@100(Name:A@111))", ""},
}

// deepTuple tells tuples within one another, as they stand in the last file.
func deepTuple(count int) string {
	s := "Name:B@53"
	for i := count - 1; i >= 0; i-- {
		s = "Tuple@" + strconv.Itoa(9+i+i/10) + "(" + s + ")"
	}
	return s
}

// P7.1: what is read, and what is wrong.
func TestFile(t *testing.T) {
	for _, x := range files {
		n, diags, e := pfile.File(x[0])
		if got := testkit.Dump(n); got != x[1] || said(diags) != x[2] || e != api.OK {
			t.Errorf("%q:\n%s, not\n%s\n%s, not %s; %d", x[0], got, x[1], said(diags), x[2], e)
		}
		if !tree.File(n) {
			t.Errorf("%q: the file isn't formed", x[0])
		}
	}
}

// P7.1
func TestDeep(t *testing.T) {
	many := strings.Repeat("{", 41)
	for _, x := range [][2]string{
		{"const a: A = " + strings.Repeat("[", 41) + "; type B = C;", "2:53"},
		{"function f(): A {" + many + "} } type B = C; type D = E;", "2:56"},
		{"function f(): A {" + many + "} } ; } } type B = C; type D = E;", "2:56 1:62 1:64 1:66"},
		{"const a: A = [[1, (2)], {b: 3}];" + strings.Repeat("const a: A = [[1, (2)], {b: 3}];", 40), ""},
		{"((( ; { [ } " + strings.Repeat("type A = "+strings.Repeat("[", 40)+strings.Repeat("]", 40)+"; ", 2), "1:0 1:6"},
		{strings.Repeat("const a: A = (1; ", 50), everyWrong(50)},
	} {
		if _, diags, e := pfile.File(x[0]); said(diags) != x[1] || e != api.OK {
			t.Errorf("%.80q: %s, not %s; %d", x[0], said(diags), x[1], e)
		}
	}
}

// everyWrong tells the Diags of so many consts in which a bracket isn't shut.
func everyWrong(count int) string {
	var out []string
	for i := range count {
		out = append(out, "1:"+strconv.Itoa(17*i+15))
	}
	return strings.Join(out, " ")
}

// P7.1
func TestLarge(t *testing.T) {
	full := strings.Repeat("; ", api.MaxTokens)
	if n, diags, e := pfile.File(full); n.Kind != api.DFile || len(diags) != api.MaxTokens || e != api.OK {
		t.Error(n.Kind, len(diags), e)
	}
	if n, diags, e := pfile.File(full + ";"); n.Kind != 0 || len(n.Parts) != 0 || len(diags) != 0 || e != api.ErrLarge {
		t.Error(n.Kind, len(diags), e)
	}
	wide := "const a: A=[1" + strings.Repeat(",1", (api.MaxTokens-9)/2) + "];"
	if n, diags, e := pfile.File(wide); !tree.File(n) || len(n.Parts) != 1 || len(diags) != 0 || e != api.OK {
		t.Error(len(n.Parts), diags, e)
	}
}

// P7.2: the Ats rise, and what is between tokens changes nothing but places.
func TestWhatFollows(t *testing.T) {
	for _, x := range files {
		n, diags, _ := pfile.File(x[0])
		if !slices.IsSortedFunc(diags, func(a, b api.Diag) int { return a.At - b.At }) {
			t.Error(diags)
		}
		spaced := strings.NewReplacer(" ", " /* ; } { */\n\t// x }\n").Replace(x[0])
		if strings.Contains(x[0], "\"x;") || strings.Contains(x[0], "//") {
			continue
		}
		m, others, _ := pfile.File(spaced)
		if !tree.Same(n, m) || len(others) != len(diags) {
			t.Errorf("%q: blanks change more than places", x[0])
		}
		if len(diags) > 0 {
			continue
		}
		twice, none, _ := pfile.File(x[0] + "\n" + x[0])
		if len(none) != 0 || len(twice.Parts) != 2*len(n.Parts) {
			t.Errorf("%q twice: %v", x[0], none)
		}
	}
}
