package session_test

import (
	"fmt"
	"math/rand"
	"strings"
	"testing"

	"plinth/api"
	"plinth/bind"
	"plinth/pfile"
	"plinth/session"
	"plinth/sign"
)

func told(l []api.Diag) string {
	var out []string
	for _, d := range l {
		s := fmt.Sprint(d.File, ":", d.At, " ", d.Code)
		if d.Text != "" {
			s += " " + d.Text
		}
		out = append(out, s)
	}
	return strings.Join(out, "; ")
}

// checked checks a session, and asks how often each of some files was checked so far.
func checked(t *testing.T, s *session.Session, want string, rans string) {
	t.Helper()
	if got := told(s.Check()); got != want {
		t.Errorf("%s, not %s", got, want)
	}
	sum := 0
	var got []string
	for _, f := range []string{"a", "b", "c", "d"} {
		sum += s.Ran(f)
		got = append(got, fmt.Sprint(s.Ran(f)))
	}
	if strings.Join(got, " ") != rans || s.Runs() != sum {
		t.Errorf("ran %v, not %s; %d in all", got, rans, s.Runs())
	}
}

func edit(t *testing.T, s *session.Session, name, from, to string) {
	t.Helper()
	f, e := s.Get(name)
	at := strings.Index(f.Text, from)
	if e != api.OK || at < 0 {
		t.Fatal(name, from, e)
	}
	if e := s.Edit(name, api.Edit{From: at, To: at + len(from), Text: to}); e != api.OK {
		t.Fatal(name, from, e)
	}
}

// P24.2: the examples of the chapter and of the whole.
func TestExamples(t *testing.T) {
	s := session.New()
	s.Put("a", "export const x: number = 1;")
	s.Put("b", `import { x } from "a"; const y: string = x;`)
	checked(t, s, "b:41 24", "1 1 0 0")
	edit(t, s, "a", "1", "2")
	checked(t, s, "b:41 24", "2 1 0 0")
	edit(t, s, "a", "number", "string")
	checked(t, s, "a:25 24", "3 2 0 0")
	checked(t, s, "a:25 24", "3 2 0 0")
	s = session.New()
	s.Put("a", "export const x: number = 1;")
	s.Put("b", `import { x } from "a"; const y: number = x;`)
	checked(t, s, "", "1 1 0 0")
	edit(t, s, "a", "1", "2")
	checked(t, s, "", "2 1 0 0")
	edit(t, s, "a", "number", "string")
	checked(t, s, "a:25 24; b:41 24", "3 2 0 0")
}

// P24.1
func TestStore(t *testing.T) {
	s := session.New()
	for _, x := range []struct{ got, want api.Errno }{
		{s.Put("A", ""), api.ErrForm}, {s.Put("a", "\xff"), api.ErrUtf8}, {s.Put("a", strings.Repeat(" ", api.MaxFile+1)), api.ErrLong}, {s.Put("a", "x"), api.OK}, {s.Edit("b"), api.ErrNone}, {s.Edit("a", api.Edit{To: 9}), api.ErrRange}, {s.Edit("a", api.Edit{To: 1, Text: "y"}, api.Edit{From: 1, To: 1, Text: "z"}), api.OK}, {s.Drop("b"), api.ErrNone},
	} {
		if x.got != x.want {
			t.Error(x)
		}
	}
	if f, e := s.Get("a"); f != (api.File{Name: "a", Text: "yz", Version: 2}) || e != api.OK || s.Revision() != 2 || len(s.All()) != 1 {
		t.Error(f, e)
	}
	if e := s.Drop("a"); e != api.OK || len(s.All()) != 0 || s.Revision() != 3 {
		t.Error(e)
	}
}

// P24.2: what is wrong in files.
func TestCheck(t *testing.T) {
	s := session.New()
	checked(t, s, "", "0 0 0 0")
	s.Put("c", "type T = ; const x: T = 1; type")
	s.Put("b", `import { x, y } from "c"; import { q } from "nowhere"; const y: null = 1; const y: null = null;`)
	s.Put("a", "const a: A = 1; ))) ; const a: B = 2;")
	checked(t, s, "a:9 8 A; a:16 1; a:22 3 a; b:9 6 x; b:12 6 y; b:26 5 nowhere; b:71 24; b:74 3 y; c:9 1; c:20 8 T; c:31 1", "1 1 1 0")
	s.Put("a", strings.Repeat("; ", api.MaxTokens+1))
	checked(t, s, "a:0 12; b:9 6 x; b:12 6 y; b:26 5 nowhere; b:71 24; b:74 3 y; c:9 1; c:20 8 T; c:31 1", "2 1 1 0")
	half := "[" + strings.TrimSuffix(strings.Repeat("1,", 2100), ",") + "]"
	s.Put("b", "export interface A { a: "+half+"; } interface A { b: "+half+"; } ;")
	s.Put("c", `import { A } from "b"; const x: nobody = 1;`)
	s.Drop("a")
	checked(t, s, fmt.Sprintf("b:0 12; b:%d 1; c:0 12", len("export interface A { a: "+half+"; } interface A { b: "+half+"; } ")), "2 2 2 0")
}

// P24.2, P24.3: what is checked anew.
func TestAnew(t *testing.T) {
	s := session.New()
	s.Put("a", `export function f(x: number): number { return x; } export class C(x: number) { a: number = x; m(): number { return this.a; } }`)
	s.Put("b", `import { f } from "a"; export const y: number = f(1);`)
	s.Put("c", `import { y } from "b"; const z: number = y;`)
	s.Put("d", `const d: number = 1;`)
	checked(t, s, "", "1 1 1 1")
	edit(t, s, "a", "return x;", "return nobody;")
	checked(t, s, "a:46 20 nobody; a:46 24", "2 1 1 1")
	edit(t, s, "a", "nobody", "x /* */")
	checked(t, s, "", "3 1 1 1")
	edit(t, s, "a", "x: number)", "z: number)")
	checked(t, s, "a:46 20 x; a:46 24", "4 2 2 1")
	edit(t, s, "a", "z: number)", "x: number)")
	checked(t, s, "", "5 3 3 1")
	edit(t, s, "a", "= x", "= x + 1")
	checked(t, s, "", "6 3 3 1")
	edit(t, s, "b", "f(1)", "f(2)")
	checked(t, s, "", "6 4 3 1")
	edit(t, s, "c", "= y", "= y + 1")
	checked(t, s, "", "6 4 4 1")
	s.Drop("b")
	checked(t, s, "c:0 5 b; c:41 20 y; c:41 24", "6 4 5 1")
	s.Put("b", `export const y: string = "";`)
	checked(t, s, "c:41 23 +; c:41 24", "6 5 6 1")
	edit(t, s, "a", "f(x", "g(x")
	checked(t, s, "c:41 23 +; c:41 24", "7 5 6 1")
	s.Drop("d")
	s.Put("d", `const d: number = 1;`)
	checked(t, s, "c:41 23 +; c:41 24", "7 5 6 2")
	s.Put("d", `const d: number = 1;`)
	s.Put("d", `const d: number = 2;`)
	s.Put("d", `const d: number = 1;`)
	checked(t, s, "c:41 23 +; c:41 24", "7 5 6 3")
}

// P24.4
func TestNilAndZero(t *testing.T) {
	var none *session.Session
	if none.Put("a", "") != api.ErrNone || none.Put("A", "\xff") != api.ErrNone || none.Edit("a") != api.ErrNone || none.Drop("a") != api.ErrNone || len(none.Check()) != 0 || none.Ran("a") != 0 || none.Runs() != 0 {
		t.Error("nil")
	}
	var zero session.Session
	checked(t, &zero, "", "0 0 0 0")
	zero.Put("a", "x")
	checked(t, &zero, "a:0 1", "1 0 0 0")
	l := zero.Check()
	l[0].Code = 99
	checked(t, &zero, "a:0 1", "1 0 0 0")
	if zero.Ran("nobody") != 0 {
		t.Error("ran")
	}
}

// versions are the texts that a file may have.
var versions = map[string][]string{
	"a": {"export const x: number = 1;", "export const x: number = 2;", "export const x: string = 1;", "export type x = 1;", `import { z } from "c"; export const x: number = z;`, "const", "export const x: number = 1; interface I { a: 1; }"},
	"b": {`import { x } from "a"; export const y: number = x;`, `import { x } from "a"; export const y: number = x + 1;`, `import { x } from "c"; export const y: string = x;`, "export const y: number = nobody;", ""},
	"c": {`import { y } from "b"; export const z: number = y;`, `import { y } from "b"; import { x } from "a"; export const z: number = x; export const x: null = null;`, "export const z: number = 1; export const x: number = 1;", "export function z(): null { return 1; }"},
	"d": {`import { z } from "c"; import { q } from "e"; const w: number = z;`, "const w: number = 1;"},
}

// seen is what the others see of a file.
func seen(text string) string {
	n, _, _ := pfile.File(text)
	s, _ := sign.Of(n)
	return s
}

func reach(files map[string]string, name string) []string {
	var l []bind.Unit
	for f, text := range files {
		n, _, _ := pfile.File(text)
		l = append(l, bind.Unit{Name: f, Node: n})
	}
	r, _ := bind.Reach(name, l...)
	return r
}

// P24.3: sessions by chance, against new sessions.
func TestByChance(t *testing.T) {
	r := rand.New(rand.NewSource(24))
	names := []string{"a", "b", "c", "d"}
	for range 60 {
		s := session.New()
		before := map[string]string{}
		changed := map[string]string{}
		for range 25 {
			name := names[r.Intn(4)]
			if r.Intn(4) == 0 {
				if s.Drop(name) == api.OK {
					changed[name] = "gone"
				}
			} else {
				revision := s.Revision()
				old, e := s.Get(name)
				s.Put(name, versions[name][r.Intn(len(versions[name]))])
				now, _ := s.Get(name)
				if s.Revision() != revision && (e != api.OK || changed[name] == "gone" || seen(old.Text) != seen(now.Text)) {
					changed[name] = "gone"
				} else if s.Revision() != revision && changed[name] == "" {
					changed[name] = "inside"
				}
			}
			if r.Intn(2) == 0 {
				continue
			}
			now := map[string]string{}
			ran := map[string]int{}
			fresh := session.New()
			all := s.All()
			for i := range all {
				f := all[len(all)-1-i]
				now[f.Name] = f.Text
				fresh.Put(f.Name, f.Text)
			}
			for _, name := range names {
				ran[name] = s.Ran(name)
			}
			if got, want := told(s.Check()), told(fresh.Check()); got != want {
				t.Fatal(got, want)
			}
			for _, name := range names {
				if s.Ran(name) == ran[name] {
					continue
				}
				may := changed[name] != ""
				for _, other := range append(reach(now, name), reach(before, name)...) {
					may = may || changed[other] == "gone"
				}
				if !may || s.Ran(name) != ran[name]+1 {
					t.Fatal(name, changed, s.Ran(name), ran[name])
				}
			}
			runs := s.Runs()
			if s.Check(); s.Runs() != runs {
				t.Fatal("a second check")
			}
			before, changed = now, map[string]string{}
		}
	}
}
