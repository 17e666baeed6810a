package text_test

import (
	"slices"
	"strings"
	"testing"

	"plinth/api"
	"plinth/text"
)

// P1.1
func TestCheck(t *testing.T) {
	long := strings.Repeat("a", api.MaxFile)
	for _, x := range []struct {
		b  string
		at int
		e  api.Errno
	}{
		{"", 0, api.OK},
		{"abc\n", 0, api.OK},
		{"a\xff", 1, api.ErrUtf8},
		{"\x80", 0, api.ErrUtf8},
		{"é日\U0010ffff\ufffd", 0, api.OK},
		{"é\xc0\x80", 2, api.ErrUtf8},
		{"ab\xed\xa0\x80", 2, api.ErrUtf8},
		{"ab\xed\xbf\xbf", 2, api.ErrUtf8},
		{"\xed\x9f\xbf\xee\x80\x80", 0, api.OK},
		{"\xf4\x90\x80\x80", 0, api.ErrUtf8},
		{"a\xe0\x80\x80", 1, api.ErrUtf8},
		{"a\xe6\x97", 1, api.ErrUtf8},
		{"a\xe6\x97b", 1, api.ErrUtf8},
		{long, 0, api.OK},
		{long + "a", 0, api.ErrLong},
		{long + "\xff", 0, api.ErrLong},
		{long[1:] + "\xff", api.MaxFile - 1, api.ErrUtf8},
	} {
		if at, e := text.Check(x.b); at != x.at || e != x.e {
			t.Errorf("%.20q: %d %d, not %d %d", x.b, at, e, x.at, x.e)
		}
	}
}

// P1.2
func TestLines(t *testing.T) {
	for _, x := range []struct {
		b    string
		want []int
	}{
		{"", []int{0}},
		{"a", []int{0}},
		{"a\nb", []int{0, 2}},
		{"a\n", []int{0, 2}},
		{"\n\n", []int{0, 1, 2}},
		{"\xff\n\r\n", []int{0, 2, 4}},
	} {
		if l := text.Lines(x.b); !slices.Equal(l, x.want) {
			t.Errorf("%q: %v", x.b, l)
		}
	}
}

// P1.3
func TestWhere(t *testing.T) {
	for _, x := range []struct {
		b                string
		at, line, column int
		e                api.Errno
	}{
		{"", 0, 1, 1, api.OK},
		{"a\nb", 0, 1, 1, api.OK},
		{"a\nb", 1, 1, 2, api.OK},
		{"a\nb", 2, 2, 1, api.OK},
		{"a\nb", 3, 2, 2, api.OK},
		{"a\n", 2, 2, 1, api.OK},
		{"é\n", 2, 1, 3, api.OK},
		{"a\nb", 4, 0, 0, api.ErrRange},
		{"a\nb", -1, 0, 0, api.ErrRange},
		{"", 1, 0, 0, api.ErrRange},
	} {
		line, column, e := text.Where(x.b, x.at)
		if line != x.line || column != x.column || e != x.e {
			t.Errorf("%q %d: %d %d %d", x.b, x.at, line, column, e)
		}
	}
}

// P1.3
func TestAt(t *testing.T) {
	for _, x := range []struct {
		b                string
		line, column, at int
		e                api.Errno
	}{
		{"", 1, 1, 0, api.OK},
		{"a\nb", 1, 1, 0, api.OK},
		{"a\nb", 1, 2, 1, api.OK},
		{"a\nb", 2, 1, 2, api.OK},
		{"a\nb", 2, 2, 3, api.OK},
		{"a\n", 2, 1, 2, api.OK},
		{"a\nb", 1, 3, 0, api.ErrRange},
		{"a\nb", 2, 3, 0, api.ErrRange},
		{"a\nb", 3, 1, 0, api.ErrRange},
		{"a\nb", 0, 1, 0, api.ErrRange},
		{"a\nb", -1, 1, 0, api.ErrRange},
		{"a\nb", 1, 0, 0, api.ErrRange},
		{"a\nb", 2, 0, 0, api.ErrRange},
		{"a\nb", 2, -1 << 63, 0, api.ErrRange},
		{"a\nb", 2, 1<<63 - 1, 0, api.ErrRange},
		{"", 1, 2, 0, api.ErrRange},
	} {
		if at, e := text.At(x.b, x.line, x.column); at != x.at || e != x.e {
			t.Errorf("%q %d %d: %d %d", x.b, x.line, x.column, at, e)
		}
	}
}

// P1.3: each byte is found again.
func TestWhereAndBack(t *testing.T) {
	b := "\nab\n\n\xffc\r\n"
	for i := 0; i <= len(b); i++ {
		line, column, _ := text.Where(b, i)
		if at, e := text.At(b, line, column); at != i || e != api.OK {
			t.Error(i, line, column, at, e)
		}
	}
}

// P1.4
func TestApply(t *testing.T) {
	full := strings.Repeat("a", api.MaxFile)
	for _, x := range []struct {
		b     string
		edits []api.Edit
		want  string
		e     api.Errno
	}{
		{"abc", nil, "abc", api.OK},
		{"abc", []api.Edit{{From: 1, To: 2, Text: "XY"}}, "aXYc", api.OK},
		{"abc", []api.Edit{{To: 1}, {To: 1}}, "c", api.OK},
		{"abc", []api.Edit{{From: 3, To: 3, Text: "d"}, {From: 4, To: 4, Text: "e"}}, "abcde", api.OK},
		{"", []api.Edit{{Text: "x"}}, "x", api.OK},
		{"a", []api.Edit{{From: 1}}, "", api.ErrRange},
		{"a", []api.Edit{{From: -1}}, "", api.ErrRange},
		{"a", []api.Edit{{To: 2}}, "", api.ErrRange},
		{"ab", []api.Edit{{To: 2}, {To: 1}}, "", api.ErrRange},
		{full, []api.Edit{{Text: "b"}}, "", api.ErrLong},
		{full, []api.Edit{{To: 1, Text: "b"}}, "b" + full[1:], api.OK},
		{full, []api.Edit{{Text: "b"}, {To: 1}}, "", api.ErrLong},
		{full, []api.Edit{{Text: "b"}, {From: -1}}, "", api.ErrLong},
		{full, []api.Edit{{From: 2, To: 1, Text: "b"}, {Text: "b"}}, "", api.ErrRange},
		{full, []api.Edit{{To: 1 << 62, Text: "b"}}, "", api.ErrRange},
		{full + "ab", []api.Edit{{To: 2}}, full[2:] + "ab", api.OK},
		{full + "ab", []api.Edit{{To: 1}, {To: 1}}, "", api.ErrLong},
	} {
		if s, e := text.Apply(x.b, x.edits...); s != x.want || e != x.e {
			t.Errorf("%.10q %v: %.20q %d", x.b, x.edits, s, e)
		}
	}
}
