package interp_test

import (
	"math/rand"
	"strconv"
	"strings"
	"testing"

	"plinth/api"
	"plinth/bind"
	"plinth/interp"
	"plinth/pfile"
	"plinth/relate"
	"plinth/tdecl"
	"plinth/testkit"
	"plinth/types"
)

// writer writes programs by chance; most of them are right, and those alone are asked for.
type writer struct {
	*rand.Rand
	names []named
}

// named is a name that is there, and its type as far as it is known.
type named struct{ name, typ string }

// any picks a name.
func (w *writer) any() string { return w.names[w.Intn(len(w.names))].name }

// of picks a name of a type, if there is one; now and then another, too.
func (w *writer) of(t string, depth int) string {
	if w.Intn(40) == 0 {
		return w.any()
	}
	var l []string
	for _, n := range w.names {
		if n.typ == t {
			l = append(l, n.name)
		}
	}
	if len(l) == 0 {
		return w.plain(t, depth)
	}
	return w.pick(l...)
}

const library = `
interface Node { mut next: Node | null; it: number; }
interface Base<T> { a: T; } interface More<T> extends Base<T> { b: T[]; } interface Base<T> { c?: T; }
class P(x: number) { mut a: number = x; get(): number { return this.a; } set(v: number): P { this.a = v; return this; } }
class Q(s: string) extends P(s.length) implements HasA { s: string = s; }
interface HasA { a: number; }
type Part<T> = { [K in keyof T]?: T[K] };
type El<T> = T extends (infer V)[] ? V : never;
function id<T>(x: T): T { return x; }
function map<A, B>(f: (x: A) => B, l: A[]): B[] { const x = l[0]; if (x === null) { return []; } return [f(x)]; }
function over(x: number): string; function over(x: string): number; function over(x: number | string): never { throw x; }
const k: number | null = 5; const t: string = "t"; const o: Part<{ a: number; b: string; }> = { a: 1 };
`

var pool = []string{"number", "string", "boolean", "null", "null | number", "number | string", "{ a: number; }", "{ mut a: null | number; }", "number[]", "[number, string]", "(x: number) => string", "unknown", "Node", "More<number>", "P", "Q", "HasA", "Part<{ a: number; b: string; }>", "El<number[]>", "\"a\" | 5", "never", "{ b?: string; }", "null | P"}

func (w *writer) pick(l ...string) string { return l[w.Intn(len(l))] }

// expr writes an expression that may be of a type.
func (w *writer) expr(t string, depth int) string {
	if depth > 0 && w.Intn(3) > 0 {
		sub := func() string { return w.expr(t, depth-1) }
		maybe := w.of("null | "+t, depth-1)
		switch w.Intn(9) {
		case 0:
			return "(" + w.expr("boolean", depth-1) + " ? " + sub() + " : " + sub() + ")"
		case 1:
			return "id(" + sub() + ")"
		case 2:
			return w.of(t, depth)
		case 3:
			if t == "number" || t == "P" {
				return "(" + maybe + " === null ? " + sub() + " : " + maybe + ")"
			}
			return sub()
		case 4:
			if t == "number" || t == "string" {
				x := w.of(w.pick("unknown", "number | string", "null | number"), 0)
				return "(typeof " + x + " === \"" + t + "\" ? " + x + " : " + sub() + ")"
			}
			return w.of(t, depth)
		case 5:
			return "((y: number): " + t + " => { return " + sub() + "; })(" + w.expr("number", depth-1) + ")"
		case 6:
			if t == "number[]" {
				return "map((y: number): number => { return y + " + w.expr("number", depth-1) + "; }, " + sub() + ")"
			}
			return sub()
		}
	}
	return w.plain(t, depth)
}

func (w *writer) plain(t string, depth int) string {
	num := func() string { return w.expr("number", depth-1) }
	if depth <= 0 {
		num = func() string { return w.pick("0", "1", "7") }
	}
	switch t {
	case "number", "El<number[]>":
		return w.pick("0", "3", num()+" + "+num(), num()+" / "+num(), "-"+num(), "t.length", "over(t)", "new P("+num()+").get()", "new Q(\"s\").a", "(k === null ? 0 : k)")
	case "string":
		return w.pick("\"a\"", "t + t", "over("+num()+")", "typeof "+w.any(), "new Q(t).s")
	case "boolean":
		return w.pick("true", "false", num()+" < "+num(), w.any()+" === "+w.any(), "!true", "(true && "+num()+" > 1)")
	case "null":
		return "null"
	case "null | number":
		return w.pick("null", num(), "k", "[1, 2][0]", "o.a")
	case "number | string", "\"a\" | 5":
		return w.pick("5", "\"a\"")
	case "{ a: number; }", "HasA":
		return w.pick("{ a: "+num()+" }", "new P("+num()+")", "{ a: 1, z: t }")
	case "{ mut a: null | number; }":
		return w.pick("{ a: null }", "{ a: "+num()+" }")
	case "number[]":
		return w.pick("[]", "["+num()+", 2]", "map((y: number): number => { return y + 1; }, [1])")
	case "[number, string]":
		return "[" + num() + ", t]"
	case "(x: number) => string":
		return w.pick("(x: number): string => { return t; }", "(): string => { return \"f\"; }", "over")
	case "Node":
		return w.pick("{ next: null, it: 1 }", "{ next: { next: null, it: 2 }, it: "+num()+" }")
	case "More<number>":
		return w.pick("{ a: 1, b: [2] }", "{ a: 1, b: [], c: "+num()+" }")
	case "P", "null | P":
		return w.pick("new P("+num()+")", "new Q(t)", "new P(1).set("+num()+")")
	case "Q":
		return "new Q(t)"
	case "Part<{ a: number; b: string; }>":
		return w.pick("o", "{ }", "{ a: 1, b: t }", "{ b: \"x\" }")
	case "{ b?: string; }":
		return w.pick("{ }", "{ b: t }")
	case "never":
		return "((): never => { throw 1; })()"
	}
	return w.any()
}

func (w *writer) block(result string, depth int) string {
	var b strings.Builder
	before := len(w.names)
	for range 1 + w.Intn(4) {
		name, t := "v"+strconv.Itoa(len(w.names)), w.pick(pool...)
		switch w.Intn(9) {
		case 0, 1:
			b.WriteString(w.pick("const ", "let ") + name + ": " + t + " = " + w.expr(t, 2) + "; ")
			w.names = append(w.names, named{name, t})
		case 2:
			b.WriteString(w.pick("const ", "let ") + name + " = " + w.expr(t, 2) + "; ")
			w.names = append(w.names, named{name, ""})
		case 3:
			b.WriteString("let " + name + ": " + t + " = " + w.expr(t, 2) + "; " + name + " = " + w.expr(t, 1) + "; ")
			w.names = append(w.names, named{name, t})
		case 4:
			b.WriteString("(" + w.of("P", -1) + ").a = " + w.expr("number", 1) + "; ")
		case 5:
			if depth > 0 {
				b.WriteString("if (" + w.expr("boolean", 1) + ") { " + w.block(result, depth-1) + "} else { " + w.block(result, depth-1) + "} ")
			}
		case 6:
			if depth > 0 {
				b.WriteString("if (" + w.of(w.pick("null | number", "null | P"), 0) + " " + w.pick("===", "!==") + " null) { " + w.block(result, depth-1) + "return " + w.expr(result, 1) + "; } ")
			}
		case 7:
			if depth > 0 {
				b.WriteString("try { " + w.block(result, depth-1) + "} catch (e) { " + w.block(result, depth-1) + "} ")
			}
		default:
			b.WriteString(w.pick(w.of("P", 0)+".a", "("+w.of("More<number>", -1)+").b", w.of("number[]", 0)+"[0]", w.of("string", 0)+".length", w.any()+".a") + "; ")
		}
	}
	w.names = w.names[:before]
	return b.String()
}

// typed tells the type of a value as it is told.
func typed(v interp.Value) (api.Type, bool) {
	switch v.Kind {
	case api.KNumber:
		return api.Type{Kind: api.KNum, N: v.N}, v.N >= 0
	case api.KString:
		return api.Type{Kind: api.KStr, Text: v.Text}, true
	case api.KArray, api.KObject:
		t := api.Type{Kind: api.KTuple}
		if v.Kind == api.KObject {
			t.Kind = api.KObject
		}
		for i, p := range v.Parts {
			one, known := typed(p)
			if !known {
				return api.Type{}, false
			}
			if v.Kind == api.KArray {
				t.Parts = append(t.Parts, one)
				continue
			}
			t.Fields = append(t.Fields, api.Field{Name: v.Names[i], Flags: 2, Type: one})
		}
		return t, true
	}
	return api.Type{Kind: v.Kind}, v.Kind == api.KNull || v.Kind == api.KTrue || v.Kind == api.KFalse
}

// readable tells a type without mut, and with all fields there or null: what a value of it is seen as.
func readable(t api.Type) api.Type {
	t.Parts = append([]api.Type(nil), t.Parts...)
	for i := range t.Parts {
		t.Parts[i] = readable(t.Parts[i])
	}
	var fields []api.Field
	for _, f := range t.Fields {
		if f.Flags&1 == 0 {
			fields = append(fields, api.Field{Name: f.Name, Type: readable(f.Type)})
		}
	}
	t.Fields = fields
	if t.Kind == api.KUnion {
		return types.Union(t.Parts...)
	}
	return t
}

// P25.3: what is right never gets stuck, and what comes back is of the declared type.
func TestSound(t *testing.T) {
	right, ended := 0, 0
	for seed := range 3000 {
		w := &writer{rand.New(rand.NewSource(int64(seed))), []named{{"k", "null | number"}, {"t", "string"}, {"o", "Part<{ a: number; b: string; }>"}, {"id", ""}, {"w", ""}}}
		result := w.pick(pool...)
		s := library + "const w: " + w.pick("unknown", "null | number", "number[]", "Node | null") + " = " + w.expr("number[]", 1) + "; export function f(): " + result + " { " + w.block(result, 2) + "return " + w.expr(result, 2) + "; }"
		n, faults, _ := pfile.File(s)
		if len(faults) > 0 {
			t.Fatal(s, faults)
		}
		u := bind.Unit{Name: "a", Node: n}
		diags, e := tdecl.Check("a", u)
		if e != api.OK || len(diags) > 0 {
			continue
		}
		right++
		o, e := interp.Run("a", "f", 20000, u)
		if e != api.OK || o.Kind == 4 {
			t.Fatalf("%s\n%s at %.40q", s, told(o), s[o.At:])
		}
		if o.Kind != 1 {
			continue
		}
		ended++
		world, _ := tdecl.World("a", u)
		back, known := typed(o.Value)
		if !known {
			continue
		}
		want := declaredResult(world, result)
		if fits, _, e := relate.Fits(world, back, want); !fits && e == api.OK {
			t.Fatalf("%s\n%s is no %s", s, told(o), testkit.Text(want))
		}
	}
	if right < 300 || ended < 200 {
		t.Errorf("%d programs are right, %d come back", right, ended)
	}
}

// declaredResult tells what a result comes to, as far as a value tells it.
func declaredResult(w relate.World, result string) api.Type {
	switch result {
	case "Node":
		return testkit.T("{ it: number; next: unknown; }")
	case "More<number>":
		return testkit.T("{ a: number; b: number[]; }")
	case "P", "HasA", "Q", "null | P", "Part<{ a: number; b: string; }>", "(x: number) => string", "unknown", "{ b?: string; }":
		return testkit.T("unknown")
	case "El<number[]>":
		return testkit.T("number")
	}
	h, _, _ := relate.Spread(w, testkit.T(result))
	return readable(h)
}
