package report_test

import (
	"slices"
	"testing"

	"plinth/api"
	"plinth/report"
)

// P22.1
func TestWords(t *testing.T) {
	said := map[int]string{
		1: "syntax", 2: "too many open brackets", 3: "declared twice", 4: "overload without a function", 5: "no such file", 6: "not exported", 7: "wrong number of arguments", 8: "no such type", 9: "second of its name",
		10: "cannot be put together", 11: "infer out of place", 12: "too large", 13: "unlike type variables", 14: "cannot be extended", 15: "extends itself", 20: "no such value", 21: "cannot be called so", 22: "no such member",
		23: "wrong operand", 24: "does not fit", 25: "cannot be written", 26: "no this here", 27: "limit reached", 28: "missing return", 29: "no such class", 30: "second of its name in this block", 31: "return out of place",
	}
	for code := -40; code < 200; code++ {
		want := said[code]
		if want == "" {
			want = "unknown"
		}
		if got := report.Words(code); got != want {
			t.Errorf("%d: %q, not %q", code, got, want)
		}
	}
	for _, code := range []int{-1 << 63, 1<<63 - 1, 1 << 32} {
		if got := report.Words(code); got != "unknown" {
			t.Error(code, got)
		}
	}
}

// P22.1
func TestLine(t *testing.T) {
	for _, x := range []struct {
		d            api.Diag
		source, want string
	}{
		{api.Diag{File: "a", At: 2, Code: 24}, "x\ny", "a:2:1: does not fit"}, {api.Diag{File: "b", Code: 20, Text: "q"}, "", "b:1:1: no such value: q"}, {api.Diag{File: "c", At: 9, Code: 99}, "", "c:?:?: unknown"}, {api.Diag{File: "c", At: -1, Code: 1}, "abc", "c:?:?: syntax"},
		{api.Diag{File: "a", At: 3, Code: 1}, "x\ny", "a:2:2: syntax"}, {api.Diag{File: "a", At: 4, Code: 1, Text: "t"}, "x\ny", "a:?:?: syntax: t"}, {api.Diag{}, "", ":1:1: unknown"}, {api.Diag{File: "f", At: 12, Code: 27}, "123456789\n1234567890123", "f:2:3: limit reached"}, {api.Diag{File: "f", At: 1, Code: 1, Text: "a: b"}, "\n\xff", "f:2:1: syntax: a: b"},
	} {
		if got := report.Line(x.d, x.source); got != x.want {
			t.Errorf("%q, not %q", got, x.want)
		}
	}
}

// P22.2
func TestSort(t *testing.T) {
	want := []api.Diag{
		{File: "", At: 5}, {File: "B", At: 9, Code: 9}, {File: "a", At: -1, Code: 7}, {File: "a", At: 0, Code: 1, Text: "B"}, {File: "a", At: 0, Code: 1, Text: "a"}, {File: "a", At: 0, Code: 1, Text: "a"}, {File: "a", At: 0, Code: 2}, {File: "a", At: 2, Code: 1}, {File: "a", At: 10, Code: 0}, {File: "aa", At: 0}, {File: "b", At: 0}, {File: "é", At: 0},
	}
	l := slices.Clone(want)
	for range len(l) {
		l = append(l[5:], l[:5]...)
		before := slices.Clone(l)
		if got := report.Sort(l...); !slices.Equal(got, want) {
			t.Error(got)
		}
		if !slices.Equal(l, before) {
			t.Error("what was handed in is changed")
		}
	}
	slices.Reverse(l)
	if got := report.Sort(l...); !slices.Equal(got, want) {
		t.Error(got)
	}
	if got := report.Sort(); len(got) != 0 {
		t.Error(got)
	}
}

// P22.3
func TestAll(t *testing.T) {
	files := []api.File{{Name: "b", Text: "\n\n"}, {Name: "a", Text: "xy"}, {Name: "b", Text: ""}}
	got := report.All(files, api.Diag{File: "c", At: 1, Code: 1}, api.Diag{File: "b", At: 2, Code: 24}, api.Diag{File: "a", At: 1, Code: 20, Text: "q"}, api.Diag{File: "a", At: 0, Code: 1}, api.Diag{File: "a", At: 0, Code: 1}, api.Diag{File: "c", At: 0, Code: 2})
	want := "a:1:1: syntax\na:1:1: syntax\na:1:2: no such value: q\nb:3:1: does not fit\nc:1:1: too many open brackets\nc:?:?: syntax\n"
	if got != want {
		t.Errorf("%q, not %q", got, want)
	}
	if got := report.All(files); got != "" {
		t.Error(got)
	}
	if got := report.All(nil, api.Diag{File: "a", Code: 4}); got != "a:1:1: overload without a function\n" {
		t.Error(got)
	}
}
