package console_test

import (
	"strings"
	"testing"

	"plinth/api"
	"plinth/console"
)

func script(lines ...string) string {
	return strings.Join(lines, "\n") + "\n"
}

func tells(t *testing.T, want string, lines ...string) {
	t.Helper()
	got, line, e := console.Run(script(lines...))
	want = strings.ReplaceAll(want, "; ", "\n")
	if want != "" {
		want += "\n"
	}
	if got != want || line != 0 || e != api.OK {
		t.Errorf("%q: %q %d %d, not %q", lines, got, line, e, want)
	}
}

// P26.1: the chapter's examples.
func TestExamples(t *testing.T) {
	put := []string{"put a", "const x: number = null;", "."}
	tells(t, "ok; wrong 1 24 a 1 19; ok; right; ran 2", append(put, "check", "edit a 18 22 \"5\"", "check", "ran a")...)
	tells(t, "ok; ok; right; ran 1", append(put, "edit a 18 22 \"5\"", "check", "ran a")...)
	tells(t, "error 3", "run a x 9")
	tells(t, "right", "check")
	for _, s := range []string{"put a", "edit a 01 2 \"\""} {
		if got, line, e := console.Run(s); got != "" || line != 1 || e != api.ErrLine {
			t.Error(s, got, line, e)
		}
	}
}

// P26.1: what commands do and tell.
func TestCommands(t *testing.T) {
	tells(t, "")
	tells(t, "", "", "# check", "#", "##put a")
	tells(t, "ok; ok; error 4; error 3; error 3; ok; error 3", "put a", ".", "put a", "check", "# no remark", "", ". ", " .", "..", ".", "put A", ".", "drop b", "edit b 0 0 \"\"", "drop a", "drop a")
	tells(t, "error 5", "put a", "\xff", ".")
	tells(t, "ok; error 2; error 2; ok; wrong 1 1 a 1 1", "put a", "x y", ".", "edit a 2 1 \"\"", "edit a 0 99 \"\"", "edit a 1 2 \"\\n\\t\\\"\\\\ \"", "check")
	tells(t, "ok; ok; ok; wrong 1 1 a 3 1", "put a", "// a", ".", "edit a 0 4 \"\\n\\n x\"", "edit a 2 3 \"\"", "check")
	tells(t, "ok; ok; right; runs 2; ran 1; ran 1; ran 0; right; runs 2; ok; right; runs 3; ok; ran 2", "put a", "export const x: number = 1;", ".", "put b", "import { x } from \"a\"; const y: number = x;", ".", "check", "runs", "ran a", "ran b", "ran nobody", "check", "runs", "edit a 25 26 \"22\"", "check", "runs", "drop a", "ran a")
	tells(t, "ok; ok; wrong 4 24 a 2 19; ok; wrong 3 5 b 1 1", "put b", "import { x } from \"a\"; const y: number = x;", ".", "put a", "", "const x: number = null;", ".", "check", "drop a", "check")
	tells(t, "ok; wrong 1 1 a/b-c.d_e 2 1", "put a/b-c.d_e", "type A = 1", ".", "check")
}

// P26.1: runs.
func TestRuns(t *testing.T) {
	put := []string{"put m", "import { k } from \"k\";", "export function one(): any { return k; }", "export function two(): any { throw \"x\"; }", "export function three(): any { while (true) { } }", "export function four(): any {", "  return nobody; }", "export function five(): any { return -7; }", "export function six(): any { return [1]; } wrong (", ".", "put k", "export const k: any = 12;", "."}
	for command, want := range map[string]string{
		"run m one 9": "back 7 12", "run m two 9": "thrown 8 0", "run m three 100": "spent", "run m four 9": "stuck m 6 10", "run m five 9": "back 7 -7", "run m six 9": "back 11 0", "run m one 0": "spent", "run m one 100000": "back 7 12", "run m one 100001": "error 2", "run m one 999999999": "error 2", "run m seven 9": "error 3", "run nobody one 9": "error 3", "run k k 9": "error 3",
	} {
		tells(t, "ok; ok; "+want, append(put, command)...)
	}
	large := "put big\nexport function f(): any { }" + strings.Repeat(";", 20001) + "\n.\nput a\nexport function f(): any { return true; }\n.\nrun big f 9\nrun a f 9\ncheck\n"
	if got, line, e := console.Run(large); got != "ok\nok\nerror 3\nback 5 0\nwrong 1 12 big 1 1\n" || line != 0 || e != api.OK {
		t.Error(got, line, e)
	}
}

// P26.1: lines that are wrong.
func TestWrong(t *testing.T) {
	for _, s := range []string{
		"x", "Check", "check ", " check", "check a", "checks", "runs 1", "runs ", "ran", "ran ", "ran a b", "ran  a", "drop", "drop a b", "put", "put ", "put a b", "put a ", "run", "run a", "run a b", "run a b c", "run a b 01", "run a b -1", "run a b 1234567890", "run a b 1 ", "run a b 1 2", "run  b 1", "run a  1", "run a b ",
		"edit", "edit a", "edit a 1", "edit a 1 2", "edit a 1 2 ", "edit a 1 2 x", "edit a 1 2 \"", "edit a 1 2 \"x", "edit a 1 2 \"x\" ", "edit a 1 2  \"x\"", "edit a 1 2 \"\\q\"", "edit a 1 2 \"a\" \"b\"", "edit a 1 2 1", "edit a 1 2 \"x\"y", "edit a 1 2 \"x\" // y", "edit a 01 2 \"\"", "edit a 1 00 \"\"", "edit a a 2 \"\"", "edit a 1 +2 \"\"", "edit a 1 1234567890 \"\"", "edit a  2 \"\"", "edit  1 2 \"\"", "edit a 1 2 \"a\tb\"x", ".", "\t", "check\r", "put a\t\x00",
	} {
		for _, ahead := range []string{"", "check\n", "put a\nx\ny\n.\n\n# x\n"} {
			want := strings.Count(ahead, "\n") + 1
			got, line, e := console.Run(ahead + s)
			if got != "" || line != want || e != api.ErrLine {
				t.Errorf("%q: %q %d %d", ahead+s, got, line, e)
			}
			if got, line, e := console.Run(ahead + s + "\ncheck\nwrong\n"); got != "" || line != want || e != api.ErrLine {
				t.Errorf("%q: %q %d %d", ahead+s, got, line, e)
			}
		}
	}
	for _, s := range []string{"run a b 0", "run a b 123456789", "edit a 0 0 \"\"", "edit a 1 2 \"a b  c\"", "edit a 999999999 0 \"x // y\"", "ran é", "drop \x00", "edit ? 1 2 \"\xff\""} {
		if got, line, e := console.Run(s); !strings.HasSuffix(got, "\n") || line != 0 || e != api.OK {
			t.Errorf("%q: %q %d %d", s, got, line, e)
		}
	}
}

// P26.1: how long a script may be.
func TestLong(t *testing.T) {
	full := "check\n#" + strings.Repeat("x", api.MaxScript-7)
	if got, line, e := console.Run(full); got != "right\n" || line != 0 || e != api.OK {
		t.Error(got, line, e)
	}
	if got, line, e := console.Run(full + "x"); got != "" || line != 0 || e != api.ErrLong {
		t.Error(got, line, e)
	}
	if got, line, e := console.Run("wrong" + full); got != "" || line != 0 || e != api.ErrLong {
		t.Error(got, line, e)
	}
}

// P26.2
func TestWhatFollows(t *testing.T) {
	l := []string{script("put a", "const x: number = 1;", ".", "check"), script("edit a 0 0 \" \"", "check", "ran a", "runs"), script("drop a", "# x", "check"), script("put b", "x", ".", "run b x 1", "check"), ""}
	for _, a := range l {
		for _, b := range l {
			first, _, _ := console.Run(a)
			both, line, e := console.Run(a + b)
			if !strings.HasPrefix(both, first) || line != 0 || e != api.OK {
				t.Errorf("%q %q: %q, %q", a, b, first, both)
			}
		}
	}
}
