package narrow_test

import (
	"testing"

	"plinth/api"
	"plinth/narrow"
	"plinth/relate"
	"plinth/testkit"
	"plinth/types"
)

var words = []string{"number", "string", "boolean", "null", "array", "object", "function"}

// P18.1
func TestKind(t *testing.T) {
	for s, want := range map[string]string{
		"number": "number", "5": "number", "string": "string", `"a"`: "string", "true": "boolean", "false": "boolean", "null": "null", "number[]": "array", "[]": "array", "{ }": "object", "() => 1": "function",
		"<A>(A) => A": "function", "(() => 1) & (() => 2)": "function", "any": "", "unknown": "", "never": "", "A": "", "ref": "", "true | false": "", "keyof A": "", "A[B]": "", "{ [K in A]: B }": "", "A extends B ? C : D": "", "infer V": "",
	} {
		if got := narrow.Kind(testkit.T(s)); got != want {
			t.Errorf("%s: %q", s, got)
		}
	}
	if narrow.Kind(api.Type{}) != "" || narrow.Kind(api.Type{Kind: 99}) != "" || narrow.Kind(api.Type{Kind: api.KNum, N: -1}) != "number" {
		t.Error("types that aren't formed")
	}
}

var world = relate.World{Fuel: 1000, Decls: []relate.Decl{
	{Name: "some", Type: testkit.T("null | number | string[]")}, {Name: "loop", Type: testkit.T("loop")}, {Name: "box", Vars: []api.Var{{Name: "T"}}, Type: testkit.T("{ a: T; }")},
}}

func of(word string) narrow.Test { return narrow.Test{Kind: 1, Text: word} }

func is(s string) narrow.Test { return narrow.Test{Kind: 2, Type: testkit.T(s)} }

var truth = narrow.Test{Kind: 3}

// P18.2
func TestBehind(t *testing.T) {
	for _, x := range []struct {
		t       string
		x       narrow.Test
		yes, no string
	}{
		{"null | number | string", of("number"), "number", "null | string"},
		{"null | number | string", is("null"), "null", "number | string"},
		{"unknown", of("boolean"), "true | false", "unknown"},
		{"true | false", truth, "true", "false"},
		{"5 | 6", is("5"), "5", "6"},
		{"any", of("null"), "any", "any"}, {"any", is("null"), "any", "any"}, {"any", truth, "any", "any"},
		{"unknown", of("number"), "number", "unknown"}, {"unknown", of("string"), "string", "unknown"}, {"unknown", of("null"), "null", "unknown"}, {"unknown", of("array"), "unknown[]", "unknown"},
		{"unknown", of("object"), "{ }", "unknown"}, {"unknown", of("function"), "unknown", "unknown"}, {"unknown", is("5"), "5", "unknown"}, {"unknown", is(`"a"`), `"a"`, "unknown"}, {"unknown", truth, "true", "false"},
		{"A", of("number"), "A", "A"}, {"A | number", of("number"), "number | A", "A"}, {"A | 1", of("string"), "A", "1 | A"}, {"A", is("1"), "A", "A"}, {"A", truth, "A", "A"}, {"keyof A", of("string"), "keyof A", "keyof A"},
		{"number", is("5"), "5", "number"}, {"number", is(`"a"`), "never", "number"}, {"string", is(`"a"`), `"a"`, "string"}, {"string", is("5"), "never", "string"}, {"5", is("6"), "never", "5"}, {"5", is("5"), "5", "never"},
		{"null", is("null"), "null", "never"}, {"null | true", is("true"), "true", "null"}, {"boolean", is("false"), "false", "true"}, {"boolean", of("boolean"), "boolean", "never"}, {"number", is("true"), "never", "number"}, {"null[]", is("null"), "never", "null[]"},
		{"number", truth, "never", "never"}, {"true | null", truth, "true", "never"}, {"false", truth, "never", "false"}, {"null", truth, "never", "never"},
		{"never", of("null"), "never", "never"}, {"never", is("null"), "never", "never"}, {"never", truth, "never", "never"},
		{"some", of("array"), "string[]", "null | number"}, {"some", of("function"), "never", "null | number | string[]"}, {"some", is("1"), "1", "null | number | string[]"}, {"box<1> | null", of("object"), "{ a: 1; }", "null"}, {"box<1> | null", is("null"), "null", "{ a: 1; }"},
		{"1 | 2 | \"a\"", of("number"), "1 | 2", `"a"`}, {"[1] | number[]", of("array"), "[1] | number[]", "never"}, {"(() => 1) | null", of("function"), "() => 1", "null"}, {"((() => 1) & (() => 2)) | 1", of("function"), "(() => 1) & (() => 2)", "1"}, {"infer V", of("null"), "infer V", "infer V"},
	} {
		for _, yes := range []bool{true, false} {
			want := x.no
			if yes {
				want = x.yes
			}
			got, e := narrow.Behind(world, testkit.T(x.t), x.x, yes)
			if e != api.OK || types.Order(got, testkit.T(want)) != 0 {
				t.Errorf("%s behind %v, %t: %s %d, not %s", x.t, x.x, yes, testkit.Text(got), e, want)
			}
		}
	}
}

// P18.2: what is refused.
func TestWrong(t *testing.T) {
	null := testkit.T("null")
	bad := api.Type{Kind: api.KUnion, Parts: []api.Type{null}}
	wrong := world
	wrong.Fuel = api.MaxFuel + 1
	for _, x := range []struct {
		w relate.World
		t api.Type
		x narrow.Test
		e api.Errno
	}{
		{wrong, null, truth, api.ErrForm}, {world, bad, truth, api.ErrForm}, {world, null, narrow.Test{}, api.ErrForm}, {world, null, narrow.Test{Kind: 4}, api.ErrForm}, {world, null, narrow.Test{Kind: -1}, api.ErrForm}, {world, null, of(""), api.ErrForm}, {world, null, of("any"), api.ErrForm},
		{world, null, narrow.Test{Kind: 2}, api.ErrForm}, {world, null, is("number"), api.ErrForm}, {world, null, is("[]"), api.ErrForm}, {world, null, narrow.Test{Kind: 2, Type: api.Type{Kind: api.KNum, N: -1}}, api.ErrForm}, {world, null, narrow.Test{Kind: 2, Type: api.Type{Kind: api.KNull, Text: "a"}}, api.ErrForm},
		{world, testkit.T("loop"), truth, api.ErrFuel}, {world, testkit.T("loop"), narrow.Test{Kind: 9}, api.ErrForm}, {world, testkit.T("null | loop"), of("null"), api.ErrFuel},
	} {
		for _, yes := range []bool{true, false} {
			if got, e := narrow.Behind(x.w, x.t, x.x, yes); got.Kind != 0 || e != x.e {
				t.Error(x.x, testkit.Text(x.t), got, e)
			}
		}
	}
	for _, w := range words {
		if got, e := narrow.Behind(world, null, of(w), true); e != api.OK || (got.Kind == api.KNull) != (w == "null") {
			t.Error(w, got, e)
		}
	}
	if got, e := narrow.Behind(world, null, narrow.Test{Kind: 3, Text: "x", Type: bad}, true); got.Kind != api.KNever || e != api.OK {
		t.Error(got, e)
	}
}

// P18.3: what is left fits what was tested.
func TestMeaning(t *testing.T) {
	tests := []narrow.Test{is("null"), is("true"), is("false"), is("1"), is(`"a"`), truth}
	for _, w := range words {
		tests = append(tests, of(w))
	}
	for _, s := range []string{"null | number", "1 | \"a\" | true", "string | [1] | { a: 1; }", "boolean | null[]", "(() => 1) | string", "number | string | boolean | null"} {
		for _, x := range tests {
			before := testkit.T(s)
			yes, _ := narrow.Behind(world, before, x, true)
			no, _ := narrow.Behind(world, before, x, false)
			for _, left := range []api.Type{yes, no} {
				if fits, _, e := relate.Fits(world, left, before); !fits || e != api.OK {
					t.Error(s, x, testkit.Text(left))
				}
			}
			if x.Kind == 3 {
				continue
			}
			// Each literal that fits what was tested is in what is left of the one answer or the other.
			for _, l := range []string{"null", "true", "false", "1", "2", `"a"`, `"b"`} {
				one := testkit.T(l)
				in, _, _ := relate.Fits(world, one, before)
				some, _, _ := relate.Fits(world, one, types.Union(yes, no))
				if in && !some {
					t.Error(s, x, l)
				}
			}
		}
	}
}
