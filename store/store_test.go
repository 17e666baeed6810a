package store_test

import (
	"slices"
	"strconv"
	"strings"
	"testing"

	"plinth/api"
	"plinth/store"
)

// P2.1
func TestName(t *testing.T) {
	long := strings.Repeat("a", api.MaxName)
	for _, s := range []string{"a", "z", "a0.9_-/b", "a/", long} {
		if !store.Name(s) {
			t.Errorf("%q is a name", s)
		}
	}
	for _, s := range []string{"", "A", "aB", "0", ".a", "_", "-", "/a", "a b", "aé", "a\x00", "a`", "a{", "a:", long + "a"} {
		if store.Name(s) {
			t.Errorf("%q is no name", s)
		}
	}
}

func expect(t *testing.T, s *store.Store, e, want api.Errno, revision int) {
	t.Helper()
	if e != want || s.Revision() != revision {
		t.Errorf("error %d, not %d; revision %d, not %d", e, want, s.Revision(), revision)
	}
}

// P2.1, P2.2, P2.3, P2.4: the chapter's examples.
func TestExamples(t *testing.T) {
	s := store.New()
	expect(t, s, api.OK, api.OK, 0)
	expect(t, s, s.Put("a", "x"), api.OK, 1)
	expect(t, s, s.Put("a", "x"), api.OK, 1)
	expect(t, s, s.Edit("a", api.Edit{To: 1, Text: "yz"}), api.OK, 2)
	if f, e := s.Get("a"); f != (api.File{Name: "a", Text: "yz", Version: 2}) || e != api.OK {
		t.Error(f, e)
	}
	expect(t, s, s.Drop("a"), api.OK, 3)
	if f, e := s.Get("a"); f != (api.File{}) || e != api.ErrNone {
		t.Error(f, e)
	}
	expect(t, s, s.Put("a", ""), api.OK, 4)
	if f, e := s.Get("a"); f != (api.File{Name: "a", Version: 4}) || e != api.OK {
		t.Error(f, e)
	}
	expect(t, s, s.Put("A", ""), api.ErrForm, 4)
	expect(t, s, s.Put("A", "\xff"), api.ErrForm, 4)
	expect(t, s, s.Put("a", "\xff"), api.ErrUtf8, 4)
	expect(t, s, s.Edit("b"), api.ErrNone, 4)
	expect(t, s, s.Drop("b"), api.ErrNone, 4)
}

// P2.2
func TestPutRefused(t *testing.T) {
	s := store.New()
	expect(t, s, s.Put("a", strings.Repeat("x", api.MaxFile+1)), api.ErrLong, 0)
	for i := range api.MaxFiles {
		expect(t, s, s.Put("f"+strconv.Itoa(i), "x"), api.OK, i+1)
	}
	expect(t, s, s.Put("g", "x"), api.ErrLarge, api.MaxFiles)
	expect(t, s, s.Put("g", "\xff"), api.ErrUtf8, api.MaxFiles)
	expect(t, s, s.Put("", "x"), api.ErrForm, api.MaxFiles)
	expect(t, s, s.Put("f0", "y"), api.OK, api.MaxFiles+1)
	expect(t, s, s.Drop("f1"), api.OK, api.MaxFiles+2)
	expect(t, s, s.Put("g", "x"), api.OK, api.MaxFiles+3)
	if n := len(s.All()); n != api.MaxFiles {
		t.Error(n)
	}
}

// P2.3
func TestEdit(t *testing.T) {
	s := store.New()
	s.Put("a", "abc")
	expect(t, s, s.Edit("a"), api.OK, 1)
	expect(t, s, s.Edit("a", api.Edit{From: 1, To: 2, Text: "b"}), api.OK, 1)
	expect(t, s, s.Edit("a", api.Edit{From: 1, To: 2, Text: "x"}, api.Edit{From: 1, To: 2, Text: "b"}), api.OK, 1)
	expect(t, s, s.Edit("a", api.Edit{To: 1}, api.Edit{To: 3}), api.ErrRange, 1)
	expect(t, s, s.Edit("a", api.Edit{Text: "\xff"}), api.ErrUtf8, 1)
	expect(t, s, s.Edit("a", api.Edit{Text: strings.Repeat("x", api.MaxFile)}), api.ErrLong, 1)
	expect(t, s, s.Edit("a", api.Edit{Text: "\xff"}, api.Edit{To: 1}), api.OK, 1)
	expect(t, s, s.Edit("a", api.Edit{To: 1}, api.Edit{To: 1}), api.OK, 2)
	if f, _ := s.Get("a"); f != (api.File{Name: "a", Text: "c", Version: 2}) {
		t.Error(f)
	}
}

// P2.4
func TestAll(t *testing.T) {
	s := store.New()
	for _, name := range []string{"b", "a/b", "a", "a.b", "ab", "a-"} {
		s.Put(name, name)
	}
	var names []string
	for _, f := range s.All() {
		names = append(names, f.Name)
		if g, e := s.Get(f.Name); g != f || e != api.OK || f.Text != f.Name {
			t.Error(f, g, e)
		}
	}
	if !slices.Equal(names, []string{"a", "a-", "a.b", "a/b", "ab", "b"}) {
		t.Error(names)
	}
	s.All()[0] = api.File{Name: "z"}
	if s.All()[0].Name != "a" {
		t.Error("an answer reaches into the store")
	}
}

// P2.5
func TestNilAndZero(t *testing.T) {
	var none *store.Store
	if f, e := none.Get("a"); f != (api.File{}) || e != api.ErrNone {
		t.Error(f, e)
	}
	expect(t, none, none.Put("a", ""), api.ErrNone, 0)
	expect(t, none, none.Put("A", "\xff"), api.ErrNone, 0)
	expect(t, none, none.Edit("a"), api.ErrNone, 0)
	expect(t, none, none.Drop("a"), api.ErrNone, 0)
	if len(none.All()) != 0 {
		t.Error(none.All())
	}
	var zero store.Store
	expect(t, &zero, zero.Drop("a"), api.ErrNone, 0)
	expect(t, &zero, zero.Put("a", "x"), api.OK, 1)
	expect(t, &zero, zero.Put("b", "x"), api.OK, 2)
	if f, e := zero.Get("b"); f.Version != 2 || e != api.OK {
		t.Error(f, e)
	}
	other := store.New()
	if len(other.All()) != 0 || other.Revision() != 0 {
		t.Error("two stores hang on one another")
	}
}
