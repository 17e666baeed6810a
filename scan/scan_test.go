package scan_test

import (
	"slices"
	"strings"
	"testing"

	"plinth/api"
	"plinth/scan"
)

type token = api.Token

func same(t *testing.T, s string, want ...token) {
	t.Helper()
	got, e := scan.Cut(s)
	want = append(want, token{Kind: api.TEnd, At: len(s), End: len(s)})
	if e != api.OK || !slices.Equal(got, want) {
		t.Errorf("%q: %v %d, not %v", s, got, e, want)
	}
}

// texts cuts s, and tells the kinds and texts of all but the end.
func texts(t *testing.T, s string) string {
	t.Helper()
	l, e := scan.Cut(s)
	if e != api.OK || len(l) == 0 {
		t.Fatal(e)
	}
	out := ""
	for _, x := range l[:len(l)-1] {
		out += string("?nIsSwEb"[x.Kind]) + ":" + x.Text + " "
		if x.Kind != api.TString && s[x.At:x.End] != x.Text {
			t.Errorf("%q: %v doesn't stand there", s, x)
		}
	}
	return strings.TrimSuffix(out, " ")
}

// P3.1
func TestCut(t *testing.T) {
	same(t, "")
	same(t, " \t\r\n")
	same(t, "let x=1; // a",
		token{Kind: api.TWord, Text: "let", At: 0, End: 3}, token{Kind: api.TName, Text: "x", At: 4, End: 5},
		token{Kind: api.TSign, Text: "=", At: 5, End: 6}, token{Kind: api.TNumber, Text: "1", N: 1, At: 6, End: 7},
		token{Kind: api.TSign, Text: ";", At: 7, End: 8})
	same(t, `"a\nb"`, token{Kind: api.TString, Text: "a\nb", At: 0, End: 6})
	same(t, `"a`, token{Kind: api.TBad, Text: `"a`, At: 0, End: 2})
	same(t, "é", token{Kind: api.TBad, Text: "é", At: 0, End: 2})
	same(t, "9223372036854775807", token{Kind: api.TNumber, Text: "9223372036854775807", N: 1<<63 - 1, At: 0, End: 19})
	same(t, "0", token{Kind: api.TNumber, Text: "0", At: 0, End: 1})
	same(t, "a/*b*/c", token{Kind: api.TName, Text: "a", At: 0, End: 1}, token{Kind: api.TName, Text: "c", At: 6, End: 7})
	same(t, "a/*\"*/", token{Kind: api.TName, Text: "a", At: 0, End: 1})
	same(t, "//a\nb", token{Kind: api.TName, Text: "b", At: 4, End: 5})
	same(t, "\"\x00\xff\r'\"", token{Kind: api.TString, Text: "\x00\xff\r'", At: 0, End: 6})
}

// P3.1
func TestKinds(t *testing.T) {
	for _, x := range [][2]string{
		{"a=>b===c", "n:a S:=> n:b S:=== n:c"},
		{"a==b", "n:a S:= S:= n:b"},
		{"a====b", "n:a S:=== S:= n:b"},
		{"a==>b", "n:a S:= S:=> n:b"},
		{"a!=b!==c!", "n:a S:! S:= n:b S:!== n:c S:!"},
		{"... .. .", "S:... S:. S:. S:."},
		{"<=<>=>", "S:<= S:< S:>= S:>"},
		{"a&&&b|||c", "n:a S:&& S:& n:b S:|| S:| n:c"},
		{";{}()[]<>,:+-*%?", "S:; S:{ S:} S:( S:) S:[ S:] S:< S:> S:, S:: S:+ S:- S:* S:% S:?"},
		{"a/b", "n:a S:/ n:b"},
		{"a*/b", "n:a S:* S:/ n:b"},
		{"1.x", "I:1 S:. n:x"},
		{"1.2", "I:1 S:. I:2"},
		{"01", "b:01"},
		{"00", "b:00"},
		{"1x", "b:1x"},
		{"1_0", "b:1_0"},
		{"0x1F", "b:0x1F"},
		{"1$", "b:1$"},
		{"99999999999999999999", "b:99999999999999999999"},
		{"9223372036854775808", "b:9223372036854775808"},
		{"9223372036854775807x", "b:9223372036854775807x"},
		{"-1", "S:- I:1"},
		{"_a$9 $ _ aB zAZ", "n:_a$9 n:$ n:_ n:aB n:zAZ"},
		{"typeof typeofx Type type", "w:typeof n:typeofx n:Type w:type"},
		{"/* x", "b:/* x"},
		{"/*/", "b:/*/"},
		{"/**/", ""},
		{"/***/ a", "n:a"},
		{"a /* b\nc", "n:a b:/* b\nc"},
		{"@#", "b:@ b:#"},
		{"a'b", "n:a b:' n:b"},
		{"\\a", "b:\\ n:a"},
		{"^~`", "b:^ b:~ b:`"},
		{"\x00\x7f", "b:\x00 b:\x7f"},
		{"éé a", "b:éé n:a"},
		{"aé", "n:a b:é"},
		{"@é", "b:@ b:é"},
		{"\x80\xff1", "b:\x80\xff I:1"}, {"\xff\x80\x80a", "b:\xff\x80\x80 n:a"}, {"//\n//\na", "n:a"},
		{"\v", "b:\v"},
		{`""`, "s:"},
		{`"\\\"\t"`, "s:\\\"\t"},
		{`"\q"a`, `b:"\q" n:a`},
		{`"a\`, `b:"a\`},
		{`"\\"a"`, `s:\ n:a b:"`},
		{`"a\"`, `b:"a\"`},
		{`"a\q\"b"c`, `b:"a\q\"b" n:c`},
		{`"a\\q"c`, `s:a\q n:c`},
		{"\"a\nb", "b:\"a n:b"},
		{"\"a\\\nb", "b:\"a\\ n:b"},
		{"\"\\q\nb\"", "b:\"\\q n:b b:\""},
		{`"//"`, "s://"},
		{"//\"", ""},
		{"// a */\nb", "n:b"},
	} {
		if got := texts(t, x[0]); got != x[1] {
			t.Errorf("%q: %q, not %q", x[0], got, x[1])
		}
	}
}

// P3.1: as many tokens as may be, and one more.
func TestMany(t *testing.T) {
	full := strings.Repeat("a ", api.MaxTokens)
	if l, e := scan.Cut(full); len(l) != api.MaxTokens+1 || e != api.OK {
		t.Error(len(l), e)
	}
	if l, e := scan.Cut(full + "// x"); len(l) != api.MaxTokens+1 || e != api.OK {
		t.Error(len(l), e)
	}
	if l, e := scan.Cut(full + "a"); len(l) != 0 || e != api.ErrLarge {
		t.Error(len(l), e)
	}
	if l, e := scan.Cut(full + "@"); len(l) != 0 || e != api.ErrLarge {
		t.Error(len(l), e)
	}
}

var reserved = strings.Fields(`import from export type interface class extends implements function const let mut
	if else while return throw try catch new this true false null typeof as keyof infer in any unknown never
	boolean number string`)

// P3.2
func TestWords(t *testing.T) {
	for _, s := range reserved {
		if !scan.Reserved(s) || scan.IsName(s) {
			t.Errorf("%q is reserved", s)
		}
		if got := texts(t, s); got != "w:"+s {
			t.Error(got)
		}
	}
	for _, s := range []string{"a", "z", "A", "Z", "az", "AZ", "a0", "a9", "_", "$", "a1", "Import", "imports", "of", "length", "undefined", "void", "var"} {
		if scan.Reserved(s) || !scan.IsName(s) {
			t.Errorf("%q is a name", s)
		}
	}
	for _, s := range []string{"", "1", "1a", "a b", "a ", " a", "a-b", "é", "aé", "a'", "a.b", "@", "a\n"} {
		if scan.Reserved(s) || scan.IsName(s) {
			t.Errorf("%q is neither", s)
		}
	}
}

// P3.3
func TestQuote(t *testing.T) {
	for _, x := range [][2]string{
		{"", `""`}, {"a", `"a"`}, {"a\nb", `"a\nb"`}, {"\t", `"\t"`}, {`\`, `"\\"`}, {`"`, `"\""`}, {`\n`, `"\\n"`},
		{"\r\x00\xffé'", "\"\r\x00\xffé'\""},
	} {
		if got := scan.Quote(x[0]); got != x[1] {
			t.Errorf("%q: %q", x[0], got)
		}
	}
	all := make([]byte, 256)
	for i := range all {
		all[i] = byte(i)
	}
	for _, s := range []string{"", "\\", "\\\"", "\n\t\\n", string(all), `"\`} {
		q := scan.Quote(s)
		same(t, q, token{Kind: api.TString, Text: s, At: 0, End: len(q)})
	}
}
