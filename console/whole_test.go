package console_test

import (
	"fmt"
	"math/rand"
	"slices"
	"strings"
	"testing"

	"plinth/api"
	"plinth/bind"
	"plinth/interp"
	"plinth/pfile"
	"plinth/report"
	"plinth/session"
	"plinth/show"
	"plinth/tdecl"
	"plinth/tree"
	"plinth/types"
)

// pieces are what files by chance are made of.
var pieces = strings.Fields(`import { a } from "b" ; export type A = number string null | & [ ] ( ) { } interface B extends C < > class x : y , => function f const let mut if else while return throw try catch new this
	true false typeof as keyof infer in any unknown never boolean + - * / % ! ? . === !== && || 1 0 007 "s" "open é @ // /* */ \ implements T U V`)

func chance(r *rand.Rand, count int) string {
	var b strings.Builder
	for range count {
		b.WriteString(pieces[r.Intn(len(pieces))])
		b.WriteString([]string{" ", "\n", ""}[r.Intn(3)])
	}
	return b.String()
}

// P1: whatever bytes files have, they are read, and what is wrong is told, in order, at places within them.
func TestTotal(t *testing.T) {
	r := rand.New(rand.NewSource(1))
	for i := range 1500 {
		s := session.New()
		texts := map[string]string{}
		for _, name := range []string{"a", "b"} {
			text := chance(r, r.Intn(60))
			if i%5 == 0 {
				bytes := make([]byte, r.Intn(40))
				r.Read(bytes)
				text = strings.ToValidUTF8(string(bytes), "?")
			}
			if i%3 == 0 {
				text = mixed(r) + text
			}
			texts[name] = text
			if e := s.Put(name, text); e != api.OK {
				t.Fatal(e)
			}
		}
		l := s.Check()
		if !slices.Equal(l, report.Sort(l...)) {
			t.Fatal("not in order", texts, l)
		}
		for _, d := range l {
			if d.At < 0 || d.At > len(texts[d.File]) || report.Words(d.Code) == "unknown" {
				t.Fatal("out of place", texts, d)
			}
		}
	}
}

// lines are declarations, right and wrong ones, that files by chance are made of.
var lines = []string{
	`export const x: number = 1;`, `import { x } from "b";`, `import { y, f } from "a";`, `export interface I { a: number; }`, `interface I { b?: string; }`, `export function f(p: number | null): number { if (p === null) { return 0; } return p + 1; }`, `const y: string = x;`, `export const y: I = { a: 1 };`,
	`export class C(q: number) { mut a: number = (q); m(): number { return this.a + q; } }`, `class D() extends C(1) implements I { b: string = "x"; }`, `type L<T> = T extends (infer V)[] ? V : L<T[]>;`, `const l: L<number[]> = -(1 as number) * 2;`, `export function g(): any { return [f(null), (y as any).a, { }]; }`, `function h<T>(a: T): T; function h<T>(a: T): T { return a; }`,
	`type U = number | U;`, `const z: U = nobody(1)[2]!.three;`, `export function g2(): number { let i = 0; while (i < 3) { i = i + 1; } try { throw i; } catch (e) { return typeof e === "number" ? e : 0; } }`, `interface J extends I, J { c: null; }`, `const t: { [K in keyof I]?: I[K] } = { a: (x) };`, `function w(): null { const a = 1; const a = (2); a = 3; }`,
}

func mixed(r *rand.Rand) string {
	var l []string
	for range r.Intn(7) {
		l = append(l, lines[r.Intn(len(lines))])
	}
	return strings.Join(l, "\n")
}

// P2: a check tells what the rules tell of the files as they are, whatever was checked ahead, and in whatever order files were put.
func TestFresh(t *testing.T) {
	r := rand.New(rand.NewSource(2))
	names := []string{"a", "b", "c"}
	s := session.New()
	for range 120 {
		name := names[r.Intn(3)]
		if r.Intn(6) == 0 {
			s.Drop(name)
		} else {
			s.Put(name, mixed(r))
		}
		want := s.Check()
		for range 2 {
			fresh := session.New()
			all := s.All()
			r.Shuffle(len(all), func(i, j int) { all[i], all[j] = all[j], all[i] })
			for _, f := range all {
				fresh.Put(f.Name, f.Text)
				if r.Intn(2) == 0 {
					fresh.Check()
				}
			}
			if got := fresh.Check(); !slices.Equal(got, want) {
				t.Fatal(got, want)
			}
		}
	}
}

// P3: what stands in a block is no part of a signature, and what is wrong in a file hangs on the others' signatures alone.
func TestFrugal(t *testing.T) {
	tells(t, "ok; ok; ok; right; ok; wrong 1 24 a 1 47; runs 4; ok; wrong 1 24 b 1 42; runs 6; ran 1",
		"put a", `export function f(x: number): number { return 1; }`, ".", "put b", `import { f } from "a"; const y: number = f(1);`, ".", "put c", "const z: number = 1;", ".", "check", `edit a 46 47 "\"x\""`, "check", "runs", `edit a 30 36 "string"`, "check", "runs", "ran c")
}

// faults tells the codes and texts of what is wrong, without places.
func faults(l []api.Diag) string {
	var out []string
	for _, d := range l {
		out = append(out, fmt.Sprint(d.Code, " ", d.Text))
	}
	slices.Sort(out)
	return strings.Join(out, "; ")
}

func read(t *testing.T, name, text string) bind.Unit {
	t.Helper()
	n, diags, e := pfile.File(text)
	if len(diags) != 0 || e != api.OK {
		t.Fatal(text, diags)
	}
	return bind.Unit{Name: name, Node: n}
}

// P4: a file's told text is read as the file: it has the same faults, and runs alike.
func TestThereAndBack(t *testing.T) {
	r := rand.New(rand.NewSource(4))
	for range 400 {
		one, other := read(t, "a", mixed(r)), read(t, "b", mixed(r))
		text, e := show.File(one.Node)
		if e != api.OK {
			t.Fatal(e)
		}
		again := read(t, "a", text)
		if !tree.Same(one.Node, again.Node) {
			t.Fatal(text)
		}
		for _, name := range []string{"a", "b"} {
			x, e := tdecl.Check(name, one, other)
			y, e2 := tdecl.Check(name, again, other)
			if e != e2 || faults(x) != faults(y) {
				t.Fatal(text, faults(x), faults(y))
			}
		}
		for _, f := range []string{"g", "g2"} {
			x, e := interp.Run("a", f, 1000, one, other)
			y, e2 := interp.Run("a", f, 1000, again, other)
			if e != e2 || x.Kind != y.Kind || fmt.Sprint(x.Value) != fmt.Sprint(y.Value) {
				t.Fatal(text, x, y)
			}
		}
	}
}

// P5: a program in which nothing is wrong, without any, casts and !, never gets stuck.
func TestSoundWhole(t *testing.T) {
	r := rand.New(rand.NewSource(5))
	right := 0
	for range 3000 {
		s := mixed(r)
		if strings.Contains(s, "any") || strings.Contains(s, " as ") || strings.Contains(s, "!") {
			continue
		}
		u := read(t, "a", s)
		if diags, e := tdecl.Check("a", u); len(diags) > 0 || e != api.OK {
			continue
		}
		o, e := interp.Run("a", "g2", 1000, u)
		if e == api.OK {
			right++
		}
		if e == api.OK && (o.Kind != 1 || o.Value.Kind != api.KNumber || o.Value.N != 3) {
			t.Fatal(s, o)
		}
	}
	if right < 20 {
		t.Error(right)
	}
}

// P6: interfaces of one name mean what one with all their fields means.
func TestMerged(t *testing.T) {
	fields := []string{"a: number;", "b?: T;", "mut c: I<T[]>;", "d: () => T;", "e: { x: 1; };"}
	r := rand.New(rand.NewSource(6))
	for range 200 {
		r.Shuffle(len(fields), func(i, j int) { fields[i], fields[j] = fields[j], fields[i] })
		cut := r.Intn(len(fields) + 1)
		rest := ` interface More<U> extends I<U> { f: U; } export const m: More<1> | null = null; const n: I<number> = { a: 1, d: (): number => { return 1; }, e: { x: 2 } };`
		split := read(t, "f", "interface I<T> { "+strings.Join(fields[:cut], " ")+" } interface I<T> { "+strings.Join(fields[cut:], " ")+" }"+rest)
		whole := read(t, "f", "interface I<T> { "+strings.Join(fields, " ")+" }"+rest)
		x, e := tdecl.World("f", split)
		y, e2 := tdecl.World("f", whole)
		if e != api.OK || e2 != api.OK || len(x.Decls) != 2 || len(y.Decls) != 2 {
			t.Fatal(e, e2)
		}
		for i := range x.Decls {
			if x.Decls[i].Name != y.Decls[i].Name || types.Order(x.Decls[i].Type, y.Decls[i].Type) != 0 {
				t.Fatal(x.Decls[i], y.Decls[i])
			}
		}
		d, _ := tdecl.Check("f", split)
		d2, _ := tdecl.Check("f", whole)
		if faults(d) != faults(d2) || faults(d) != "24 ; 24 " {
			t.Fatal(faults(d), faults(d2))
		}
	}
}
