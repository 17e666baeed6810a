package eval_test

import (
	"slices"
	"strconv"
	"testing"

	"plinth/api"
	"plinth/eval"
	"plinth/testkit"
	"plinth/types"
)

var bad = api.Type{Kind: api.KUnion, Parts: []api.Type{{Kind: api.KNull}}}

func expect(t *testing.T, about string, got api.Type, e api.Errno, want string) {
	t.Helper()
	if e != api.OK || types.Order(got, testkit.T(want)) != 0 {
		t.Errorf("%s: %s %d, not %s", about, testkit.Text(got), e, want)
	}
}

// P13.1
func TestKeys(t *testing.T) {
	for _, x := range [][2]string{
		{"{ a: number; b?: null; }", `"a" | "b"`}, {"{ a: null; } | { a: number; c: null; }", `"a"`}, {"{ }", "never"}, {"any", "string"}, {"never", "string"},
		{"unknown", "never"}, {"null", "never"}, {"string", "never"}, {`"a"`, "never"}, {"number[]", "never"}, {"[number]", "never"}, {"() => null", "never"}, {"A", "never"},
		{"ref<number>", "never"}, {"keyof A", "never"}, {"{ a: null; } | null", "never"}, {"{ a: null; b: null; } | { b: null; c: null; } | { b: null; a: null; }", `"b"`},
		{"{ a: null; } | { b: null; }", "never"}, {"{ a: null; } | A", "never"}, {"{ mut b: A; }", `"b"`}, {"(() => null) & (() => A)", "never"}, {"infer V", "never"},
		{"any | (infer V)[]", "never"}, {"any | { a: infer V; }", `"a"`}, {"{ a: infer V; } | { a: null; b: infer W; } | any", `"a"`},
	} {
		got, e := eval.Keys(testkit.T(x[0]))
		expect(t, x[0], got, e, x[1])
	}
	if got, e := eval.Keys(bad); got.Kind != 0 || e != api.ErrForm {
		t.Error(got, e)
	}
}

// P13.1
func TestAt(t *testing.T) {
	for _, x := range [][3]string{
		{"{ b?: number; }", `"b"`, "null | number"}, {"number[]", "number", "null | number"}, {"[null, string]", "1", "string"}, {"[null]", "5", "null"}, {"{ a: number; }", `"z"`, "unknown"},
		{"unknown", "never", "never"}, {"any", "never", "never"}, {"any", `"a"`, "any"}, {"any", "unknown", "any"}, {"never", `"a"`, "never"}, {"never", "string", "never"},
		{"{ a: number; b: string; }", `"a" | "b"`, "number | string"}, {"{ a: number; }", `"a" | "z"`, "unknown"}, {"{ a: 1; } | { a: 2; }", `"a"`, "1 | 2"}, {"{ a: 1; } | { b: 2; }", `"a"`, "unknown"},
		{"{ a: 1; b: 3; } | { a: 2; b: 4; }", `"a" | "b"`, "1 | 2 | 3 | 4"}, {"{ a: number; }", "string", "unknown"}, {"{ mut a?: number; }", `"a"`, "null | number"}, {"{ mut a: number; }", `"a"`, "number"},
		{"number[]", "0", "null | number"}, {"number[]", "0 | 1", "null | number"}, {"number[]", `"length"`, "unknown"}, {"number[]", "string", "unknown"}, {"string", "0", "unknown"}, {"string", "number", "unknown"},
		{"[string, number]", "0", "string"}, {"[string, number]", "2", "null"}, {"[string, number]", "number", "null | number | string"}, {"[]", "number", "null"}, {"[]", "0", "null"}, {"[string]", `"0"`, "unknown"},
		{"unknown", `"a"`, "unknown"}, {"A", `"a"`, "unknown"}, {"ref", `"a"`, "unknown"}, {"() => null", "0", "unknown"}, {"number[] | null", "0", "unknown"}, {"any[] | [string]", "0", "any"}, {"{ a: A[\"b\"]; }", `"a"`, "A[\"b\"]"},
		{"[any]", "number", "any"}, {"{ a: ref; }", `"a"`, "ref"}, {"{ a: number; }", "any", "unknown"}, {"number[]", "any", "unknown"}, {"never[]", "number", "null"},
	} {
		got, e := eval.At(testkit.T(x[0]), testkit.T(x[1]))
		expect(t, x[0]+" at "+x[1], got, e, x[2])
	}
	null := testkit.T("null")
	for _, x := range [][2]api.Type{{bad, null}, {null, bad}, {bad, bad}, {{}, null}} {
		if got, e := eval.At(x[0], x[1]); got.Kind != 0 || e != api.ErrForm {
			t.Error(x, got, e)
		}
	}
}

// P13.2
func TestMap(t *testing.T) {
	for _, x := range []struct {
		name, keys, body string
		flags            int
		want             string
	}{
		{"K", `"a" | "b"`, "[K]", 1, `{ a?: ["a"]; b?: ["b"]; }`}, {"K", `"a"`, "number", 0, "{ a: number; }"}, {"K", `"a"`, "number", 2, "{ mut a: number; }"}, {"K", `"a"`, "number", 3, "{ mut a?: number; }"},
		{"K", "never", "K", 0, "{ }"}, {"K", "string", "K", 0, "{ }"}, {"K", `1 | null | "b" | "a b" | "" | "any" | "0"`, "K", 0, `{ b: "b"; }`}, {"K", "any", "K", 0, "{ }"}, {"K", "A", "K", 0, "{ }"},
		{"K", `"a" | "B" | "$"`, "T[K]", 0, `{ a: T["a"]; B: T["B"]; $: T["$"]; }`}, {"K", `"a"`, "<K>(K) => K", 0, "{ a: <K>(K) => K; }"}, {"K'", `"a"`, "[K, K']", 0, `{ a: [K, "a"]; }`}, {"K", `"a"`, "K | string", 0, "{ a: string; }"},
	} {
		got, e := eval.Map(x.name, testkit.T(x.keys), testkit.T(x.body), x.flags)
		expect(t, x.keys+" "+x.body, got, e, x.want)
	}
	null := testkit.T("null")
	for _, x := range []struct {
		name       string
		keys, body api.Type
		flags      int
	}{{"K", bad, null, 0}, {"K", null, bad, 0}, {"", null, null, 0}, {"any", null, null, 0}, {"K", null, null, -1}, {"K", null, null, 4}, {"K", api.Type{}, null, 0}} {
		if got, e := eval.Map(x.name, x.keys, x.body, x.flags); got.Kind != 0 || e != api.ErrForm {
			t.Error(x, got, e)
		}
	}
}

// P13.2: how large it may be.
func TestMapLarge(t *testing.T) {
	keys := func(count int) api.Type {
		var l []api.Type
		for i := range count {
			l = append(l, api.Type{Kind: api.KStr, Text: "k" + strconv.Itoa(i)})
		}
		return types.Union(l...)
	}
	tuple := func(count int) api.Type {
		return api.Type{Kind: api.KTuple, Parts: slices.Repeat([]api.Type{{Kind: api.KVar, Text: "K"}}, count)}
	}
	for _, x := range []struct {
		keys, body int
		e          api.Errno
	}{{63, 64, api.OK}, {63, 65, api.ErrLarge}, {1, 4094, api.OK}, {1, 4095, api.ErrLarge}, {4095, 0, api.OK}, {2047, 1, api.OK}, {2048, 1, api.ErrLarge}, {4095, 4095, api.ErrLarge}} {
		got, e := eval.Map("K", keys(x.keys), tuple(x.body), 0)
		if e != x.e || (e == api.OK) != types.Formed(got) || e == api.OK && len(got.Fields) != x.keys {
			t.Error(x, e, len(got.Fields))
		}
	}
}

// P13.3
func TestParts(t *testing.T) {
	for _, x := range [][]string{{"never"}, {"null", "null"}, {"number | null", "null", "number"}, {"any", "any"}, {"any | infer V", "any", "infer V"}, {"[1, 2]", "[1, 2]"}, {"A", "A"}} {
		var got []string
		for _, p := range eval.Parts(testkit.T(x[0])) {
			got = append(got, testkit.Text(p))
		}
		if !slices.Equal(got, x[1:]) {
			t.Error(x, got)
		}
	}
	if l := eval.Parts(api.Type{Kind: 99}); len(l) != 1 || l[0].Kind != 99 {
		t.Error(l)
	}
	if l := eval.Parts(bad); len(l) != 1 || l[0].Kind != api.KNull {
		t.Error(l)
	}
	u := testkit.T("null | number")
	eval.Parts(u)[0].Kind = api.KString
	if testkit.Text(u) != "null | number" {
		t.Error("the list that is answered is the union's own")
	}
}

// P13.4
func TestWhatFollows(t *testing.T) {
	x := testkit.T("{ a: number; b?: A; mut c: ref; }")
	for _, f := range x.Fields {
		want := f.Type
		if f.Flags&1 != 0 {
			want = types.Union(want, testkit.T("null"))
		}
		if got, e := eval.At(x, api.Type{Kind: api.KStr, Text: f.Name}); types.Order(got, want) != 0 || e != api.OK {
			t.Error(f, got)
		}
	}
	keys, _ := eval.Keys(x)
	made, _ := eval.Map("K", keys, testkit.T("K"), 0)
	if again, _ := eval.Keys(made); types.Order(again, keys) != 0 {
		t.Error(again)
	}
}
