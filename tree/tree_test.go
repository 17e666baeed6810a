package tree_test

import (
	"slices"
	"testing"

	"plinth/api"
	"plinth/tree"
)

type node = api.Node

// n makes a node of a kind, a text and parts.
func n(kind int, text string, parts ...node) node {
	return node{Kind: kind, Text: text, Parts: parts}
}

func withN(x node, count int64) node {
	x.N = count
	return x
}

func withM(x node, m int64) node {
	x.M = m
	return x
}

func y(name string, parts ...node) node { return n(api.YName, name, parts...) }
func e(name string) node                { return n(api.EName, name) }
func block(l ...node) node              { return n(api.SBlock, "", l...) }
func param(name string) node            { return n(api.YParam, name, y("A")) }
func field(name string, flags int64) node {
	return withN(n(api.YField, name, y("A")), flags)
}
func file(l ...node) node { return n(api.DFile, "", l...) }

var num = withN(n(api.ENum, ""), 1)

func formedTypes() []node {
	l := []node{
		y("A"), y("A", y("B"), y("number")), withN(n(api.YNum, ""), 0), withN(n(api.YNum, ""), 1<<63-1),
		n(api.YStr, ""), n(api.YStr, "\n"), n(api.YArray, "", y("A")), n(api.YTuple, ""), n(api.YTuple, "", y("A"), y("B")),
		n(api.YFunc, "", y("A")), n(api.YFunc, "", param("a"), param("a"), y("A")),
		n(api.YObject, ""), n(api.YObject, "", field("a", 0), field("a", 1), field("b", 2), field("c", 3)),
		n(api.YUnion, "", y("A"), y("A")), n(api.YBoth, "", y("A"), y("B"), y("C")),
		n(api.YKeyof, "", y("A")), n(api.YIndex, "", y("A"), y("B")),
		n(api.YMapped, "K", y("A"), y("B")), withN(n(api.YMapped, "K", y("A"), y("B")), 3),
		n(api.YCond, "", y("A"), y("B"), y("C"), y("D")), n(api.YInfer, "V"),
		{Kind: api.YName, Text: "A", At: -7},
	}
	for _, w := range []string{"any", "unknown", "never", "null", "boolean", "number", "string", "true", "false"} {
		l = append(l, y(w))
	}
	return l
}

func formedExprs() []node {
	l := []node{
		num, withN(num, 0), n(api.EStr, "any text\n"), n(api.ETrue, ""), n(api.EFalse, ""), n(api.ENull, ""), n(api.EThis, ""), e("a"),
		n(api.EObject, ""), n(api.EObject, "", n(api.EField, "a", num), n(api.EField, "a", num)),
		n(api.EArray, ""), n(api.EArray, "", num, e("a")), n(api.EMember, "a", num), n(api.EIndex, "", num, num),
		n(api.ECall, "", num), n(api.ECall, "", e("f"), num, num), n(api.ENew, "C"), n(api.ENew, "C", num),
		n(api.EFunc, "", y("A"), block()), withN(n(api.EFunc, "", param("a"), param("b"), y("A"), block()), 2),
		n(api.EUnary, "-", num), n(api.EUnary, "!", num), n(api.ECond, "", num, num, num), n(api.EAs, "", num, y("A")),
		n(api.ESure, "", num), n(api.ETypeof, "", num),
	}
	for _, s := range []string{"+", "-", "*", "/", "%", "<", "<=", ">", ">=", "===", "!==", "&&", "||"} {
		l = append(l, n(api.EBinary, s, num, num))
	}
	return l
}

func formedStats() []node {
	return []node{
		n(api.SConst, "a", num), withN(n(api.SConst, "a", y("A"), num), 1), n(api.SLet, "a", num), withN(n(api.SLet, "a", y("A"), num), 1),
		n(api.SAssign, "", e("a"), num), n(api.SAssign, "", n(api.EMember, "a", num), num), n(api.SExpr, "", num), n(api.SThrow, "", num),
		n(api.SIf, "", num, block()), withN(n(api.SIf, "", num, block(), block()), 1), n(api.SWhile, "", num, block()),
		n(api.SReturn, ""), withN(n(api.SReturn, "", num), 1), n(api.STry, "x", block(), block()), block(), block(n(api.SExpr, "", num), block()),
	}
}

func formedDecls() []node {
	v, bound := n(api.DVar, "T"), withN(n(api.DVar, "U", y("A")), 1)
	extends, meets := n(api.DExtends, "", y("A", y("B"))), n(api.DMeets, "", y("A", y("B")))
	holds, method := n(api.DHolds, "a", y("A"), num), withN(n(api.DMethod, "m", param("a"), y("A"), block()), 1)
	return []node{
		n(api.DImport, "", n(api.DName, "a")), n(api.DImport, "any text", n(api.DName, "a"), n(api.DName, "a")),
		n(api.DType, "A", y("B")), withN(n(api.DType, "A", v, bound, y("B")), 2), withM(n(api.DType, "A", y("B")), 1),
		n(api.DInterface, "A"), withN(n(api.DInterface, "A", v, extends, extends, field("a", 3), field("a", 0)), 1), n(api.DInterface, "A", field("a", 0)),
		n(api.DClass, "C"), withN(n(api.DClass, "C", param("a"), n(api.DExtends, "", y("B"), num, num), meets, meets, holds, withN(holds, 1), method, method), 1),
		n(api.DClass, "C", n(api.DMethod, "m", y("A"), block())), n(api.DClass, "C", meets), n(api.DClass, "C", n(api.DExtends, "", y("B"))),
		n(api.DFunc, "f", y("A"), block()), withN(n(api.DFunc, "f", v, bound, param("a"), param("b"), y("A"), block()), 2),
		n(api.DOver, "f", y("A")), withM(withN(n(api.DOver, "f", v, param("a"), y("A")), 1), 1), n(api.DConst, "a", y("A"), num),
	}
}

// P4.1
func TestFormed(t *testing.T) {
	for _, x := range formedTypes() {
		if !tree.Type(x) || tree.Expr(x) || tree.Stat(x) || tree.File(x) || tree.File(file(x)) {
			t.Errorf("a formed type: %v", x)
		}
	}
	for _, x := range formedExprs() {
		if !tree.Expr(x) || tree.Type(x) || tree.Stat(x) || tree.File(x) || tree.File(file(x)) {
			t.Errorf("a formed expression: %v", x)
		}
	}
	for _, x := range formedStats() {
		if !tree.Stat(x) || tree.Expr(x) || tree.Type(x) || tree.File(x) || tree.File(file(x)) {
			t.Errorf("a formed statement: %v", x)
		}
	}
	for _, x := range formedDecls() {
		if !tree.File(file(x)) || !tree.File(file(x, x)) || tree.File(x) || tree.Stat(x) || tree.Expr(x) || tree.Type(x) {
			t.Errorf("a formed declaration: %v", x)
		}
	}
	if !tree.File(file()) || tree.File(node{}) || tree.Type(node{}) || tree.Expr(node{}) || tree.Stat(node{}) {
		t.Error("the empty ones")
	}
	for _, x := range []node{withN(file(), 1), withM(file(), 1), n(api.DFile, "a"), file(file())} {
		if tree.File(x) {
			t.Errorf("no file: %v", x)
		}
	}
}

// spoilt tells x with each of its nodes spoilt in turn: another N and M, a text that is no name, a part that is no part.
func spoilt(x node) []node {
	bad := node{Kind: 99}
	out := []node{withM(x, 2), withM(x, -1), withN(x, -1), withN(x, 4), n(x.Kind, "a b", x.Parts...), withN(n(x.Kind, x.Text, append(slices.Clone(x.Parts), bad)...), x.N)}
	if x.Kind == api.YNum || x.Kind == api.ENum {
		out = append(out[:3], out[4:]...)
	}
	if x.Kind == api.YStr || x.Kind == api.EStr || x.Kind == api.DImport {
		out = append(out[:4], out[5:]...)
	}
	if isDecl := x.Kind == api.DType || x.Kind == api.DInterface || x.Kind == api.DClass || x.Kind == api.DFunc || x.Kind == api.DOver || x.Kind == api.DConst; !isDecl {
		out = append(out, withM(x, 1))
	}
	for i := range x.Parts {
		for _, p := range spoilt(x.Parts[i]) {
			s := x
			s.Parts = slices.Clone(x.Parts)
			s.Parts[i] = p
			out = append(out, s)
		}
	}
	return out
}

// P4.1
func TestSpoilt(t *testing.T) {
	for _, x := range formedTypes() {
		for _, s := range spoilt(x) {
			if tree.Type(s) {
				t.Errorf("no formed type: %v", s)
			}
		}
	}
	for _, x := range formedExprs() {
		for _, s := range spoilt(x) {
			if tree.Expr(s) {
				t.Errorf("no formed expression: %v", s)
			}
		}
	}
	for _, x := range formedStats() {
		for _, s := range spoilt(x) {
			if tree.Stat(s) {
				t.Errorf("no formed statement: %v", s)
			}
		}
	}
	for _, x := range formedDecls() {
		for _, s := range spoilt(x) {
			if tree.File(file(s)) {
				t.Errorf("no formed declaration: %v", s)
			}
		}
	}
}

// P4.1
func TestWrongTypes(t *testing.T) {
	a := y("A")
	for _, x := range []node{
		y(""), y("number", a), y("this"), y("a'"), y("import"), n(api.YInfer, "number"), n(api.YInfer, "V", a),
		n(api.YUnion, "", a), n(api.YUnion, ""), n(api.YBoth, "", a), n(api.YArray, ""), n(api.YArray, "", a, a), n(api.YKeyof, ""),
		n(api.YKeyof, "", a, a), n(api.YIndex, "", a), n(api.YIndex, "", a, a, a), n(api.YMapped, "K", a), n(api.YMapped, "number", a, a),
		n(api.YCond, "", a, a, a), n(api.YCond, "", a, a, a, a, a), n(api.YFunc, ""), n(api.YFunc, "", param("a")), n(api.YFunc, "", a, a),
		n(api.YFunc, "", param("a"), a, a), n(api.YFunc, "", a, param("a")), withN(n(api.YFunc, "", param("a"), a), 1),
		n(api.YObject, "", a), n(api.YObject, "", param("a")), n(api.YTuple, "", num), n(api.YArray, "", e("a")), param("a"), field("a", 0),
		n(api.YNum, "1"), n(api.YNum, "", a), n(api.YStr, "", a), n(api.YFunc, "", n(api.YParam, "a"), a), n(api.YFunc, "", n(api.YParam, "number", a), a),
		n(api.YObject, "", n(api.YField, "a")), n(api.YObject, "", n(api.YField, "a", a, a)), n(api.YObject, "", n(api.EField, "a", a)),
	} {
		if tree.Type(x) {
			t.Errorf("no formed type: %v", x)
		}
	}
}

// P4.1
func TestWrongExprsAndStats(t *testing.T) {
	a := y("A")
	for _, x := range []node{
		n(api.EName, "number"), n(api.EName, ""), n(api.EName, "a", num), n(api.EObject, "", num), n(api.EObject, "", field("a", 0)),
		n(api.EMember, "a"), n(api.EMember, "type", num), n(api.EIndex, "", num), n(api.ECall, ""), n(api.ENew, "string"), n(api.ENew, ""),
		withN(n(api.EFunc, "", param("a"), a), 1), withN(n(api.EFunc, "", param("a"), a, block()), 0), withN(n(api.EFunc, "", param("a"), a, block()), 2),
		withN(n(api.EFunc, "", param("a"), a, block(), block()), 1), n(api.EFunc, "", a), n(api.EFunc, "", a, num), n(api.EFunc, "", n(api.DVar, "T"), a, block()),
		n(api.EUnary, "+", num), n(api.EUnary, "typeof", num), n(api.EBinary, "=", num, num), n(api.EBinary, "==", num, num),
		n(api.EBinary, "+", num), n(api.ECond, "", num, num), n(api.EAs, "", num, num), n(api.EAs, "", a, a), n(api.ESure, ""),
		n(api.ETypeof, "", num, num), n(api.EField, "a", num), n(api.ETrue, "true"), n(api.EThis, "", num), n(api.ENum, "1"), n(api.EArray, "", block()),
	} {
		if tree.Expr(x) {
			t.Errorf("no formed expression: %v", x)
		}
	}
	for _, x := range []node{
		n(api.SConst, "a", a, num), withN(n(api.SConst, "a", num), 1), withN(n(api.SLet, "a", num, num), 1), withN(n(api.SLet, "a", a, num), 2), n(api.SLet, "a"),
		n(api.SAssign, "", num, num), n(api.SAssign, "", n(api.EName, "1"), num), n(api.SAssign, "", n(api.EMember, "a"), num), n(api.SAssign, "", e("a")),
		n(api.SAssign, "", n(api.EIndex, "", num, num), num), n(api.SExpr, ""), n(api.SThrow, ""), n(api.SIf, "", num), n(api.SIf, "", num, num),
		n(api.SIf, "", num, block(), block()), withN(n(api.SIf, "", num, block()), 1), withN(n(api.SIf, "", num, block(), n(api.SIf, "", num, block())), 1),
		withN(n(api.SIf, "", num, block(), block()), 2), n(api.SWhile, "", num), n(api.SWhile, "", block(), num), withN(n(api.SReturn, ""), 1),
		n(api.SReturn, "", num), withN(n(api.SReturn, "", num), 2), n(api.STry, "x", block()), n(api.STry, "x", block(), num), n(api.STry, "", block(), block()),
		block(num), n(api.SExpr, "", block()),
	} {
		if tree.Stat(x) {
			t.Errorf("no formed statement: %v", x)
		}
	}
}

// P4.1
func TestWrongDecls(t *testing.T) {
	a, v := y("A"), n(api.DVar, "T")
	extends, meets := n(api.DExtends, "", a), n(api.DMeets, "", a)
	holds, method := n(api.DHolds, "a", a, num), n(api.DMethod, "m", a, block())
	for _, x := range []node{
		n(api.DImport, "a"), n(api.DImport, "a", n(api.DName, "number")), n(api.DImport, "a", a), withM(n(api.DImport, "a", n(api.DName, "a")), 1),
		n(api.DType, "A"), n(api.DType, "A", v, a), withN(n(api.DType, "A", a), 1), withN(n(api.DType, "A", v, a, a), 1), withN(n(api.DType, "A", a), 1<<62),
		withN(n(api.DType, "A", v), 1), withN(n(api.DType, "A", withN(v, 1), a), 1), withN(n(api.DType, "A", n(api.DVar, "T", a), a), 1),
		n(api.DInterface, "A", field("a", 0), extends), n(api.DInterface, "A", v), n(api.DInterface, "A", v, field("a", 0)), n(api.DInterface, "A", meets),
		n(api.DInterface, "A", n(api.DExtends, "", y("number"))), n(api.DInterface, "A", n(api.DExtends, "", a, num)), n(api.DInterface, "A", n(api.DExtends, "")),
		n(api.DInterface, "A", n(api.DExtends, "", n(api.YArray, "", a))), n(api.DInterface, "A", n(api.DExtends, "", n(api.YInfer, "A"))), n(api.DInterface, ""),
		n(api.DClass, "C", extends, extends), n(api.DClass, "C", meets, extends), n(api.DClass, "C", holds, meets), n(api.DClass, "C", method, holds),
		n(api.DClass, "C", param("a")), withN(n(api.DClass, "C"), 1), n(api.DClass, "C", n(api.DExtends, "", y("A", a))), n(api.DClass, "C", n(api.DExtends, "", y("any"))),
		n(api.DClass, "C", n(api.DExtends, "", num)), n(api.DClass, "C", n(api.DMeets, "", y("null"))), n(api.DClass, "C", n(api.DMeets, "", a, a)),
		n(api.DClass, "C", withN(holds, 2)), n(api.DClass, "C", n(api.DHolds, "a", num)), n(api.DClass, "C", n(api.DHolds, "a", num, a)),
		n(api.DClass, "C", n(api.DMethod, "m", a)), n(api.DClass, "C", withN(method, 1)), n(api.DClass, "C", n(api.DMethod, "m", v, a, block())), n(api.DClass, "any"),
		n(api.DFunc, "f", a), n(api.DFunc, "f", param("a"), a, block()), n(api.DFunc, "f", param("a"), v, a, block()), n(api.DFunc, "number", a, block()),
		n(api.DOver, "f", a, block()), n(api.DOver, "f", v), withN(n(api.DOver, "f", a), 1), n(api.DConst, "a", num), n(api.DConst, "a", a), n(api.DConst, "a", a, num, num),
		withN(n(api.DConst, "a", a, num), 1), n(api.DVar, "T"), extends, meets, holds, method, n(api.SBlock, ""), n(api.DName, "a"),
	} {
		if tree.File(file(x)) {
			t.Errorf("no formed declaration: %v", x)
		}
		if tree.File(file(n(api.DType, "A", a), x)) {
			t.Errorf("no formed second declaration: %v", x)
		}
	}
}

// wide makes a tree of so many nodes.
func wide(count int) node {
	return n(api.EArray, "", make([]node, count-1)...)
}

// P4.1, P4.2
func TestNodes(t *testing.T) {
	if k := tree.Nodes(node{}); k != 1 {
		t.Error(k)
	}
	if k := tree.Nodes(n(api.YArray, "", y("A", y("B"), y("C")))); k != 4 {
		t.Error(k)
	}
	for _, x := range [][2]int{{api.MaxTokens - 1, api.MaxTokens - 1}, {api.MaxTokens, api.MaxTokens}, {api.MaxTokens + 1, api.MaxTokens + 1}, {api.MaxTokens + 2, api.MaxTokens + 1}, {3 * api.MaxTokens, api.MaxTokens + 1}} {
		if k := tree.Nodes(wide(x[0])); k != x[1] {
			t.Error(x, k)
		}
	}
	deep := y("A")
	for range api.MaxTokens {
		deep = n(api.YArray, "", deep)
	}
	if k := tree.Nodes(deep); k != api.MaxTokens+1 || !tree.Type(deep) {
		t.Error(k)
	}
	// A file of just MaxTokens nodes: a DFile, a DConst, a YName, an EArray and its parts.
	many := func(parts int) node {
		l := make([]node, parts)
		for i := range l {
			l[i] = num
		}
		return file(n(api.DConst, "a", y("A"), n(api.EArray, "", l...)))
	}
	if !tree.File(many(api.MaxTokens-4)) || tree.File(many(api.MaxTokens-3)) {
		t.Error("the limit of a file")
	}
}

// P4.2
func TestSameAndBare(t *testing.T) {
	x := node{Kind: api.ECall, At: 3, Parts: []node{{Kind: api.EName, Text: "f", At: 3}, {Kind: api.ENum, N: 5, At: 5}, {Kind: 99, M: 2, At: 9}}}
	b := tree.Bare(x)
	want := node{Kind: api.ECall, Parts: []node{{Kind: api.EName, Text: "f"}, {Kind: api.ENum, N: 5}, {Kind: 99, M: 2}}}
	if b.At != 0 || b.Parts[0].At != 0 || b.Parts[1].At != 0 || b.Parts[2].At != 0 || !tree.Same(b, want) {
		t.Error(b)
	}
	if x.At != 3 || x.Parts[1].At != 5 {
		t.Error("what was handed in is changed")
	}
	if !tree.Same(x, b) || !tree.Same(x, x) || !tree.Same(node{}, node{Parts: []node{}}) {
		t.Error("the same but for places")
	}
	change := func(f func(x *node)) node {
		c := tree.Bare(x)
		f(&c)
		return c
	}
	for i, y := range []node{
		change(func(x *node) { x.Kind++ }), change(func(x *node) { x.Text = "a" }), change(func(x *node) { x.N = 1 }), change(func(x *node) { x.M = 1 }),
		change(func(x *node) { x.Parts = x.Parts[:2] }), change(func(x *node) { x.Parts = append(x.Parts, node{}) }), change(func(x *node) { x.Parts[2].M = 1 }),
		change(func(x *node) { x.Parts[0].Text = "g" }), change(func(x *node) { x.Parts[1].N = 6 }), change(func(x *node) { x.Parts[0], x.Parts[1] = x.Parts[1], x.Parts[0] }),
	} {
		if tree.Same(x, y) || tree.Same(y, x) {
			t.Error("not the same", i)
		}
	}
}

// P4.3
func TestNames(t *testing.T) {
	for _, x := range []struct {
		n    node
		want []string
	}{
		{n(api.ECall, "", e("f"), e("x"), n(api.ENew, "C", e("x"))), []string{"f", "x", "C"}},
		{n(api.EAs, "", n(api.EMember, "m", e("a")), y("A", y("number"), y("B"), y("A"))), []string{"a", "A", "B"}},
		{n(api.ENew, "C", e("C"), e("D")), []string{"C", "D"}},
		{y("any"), nil}, {y("true"), nil}, {n(api.YInfer, "V"), nil}, {n(api.DFunc, "f", param("p"), y("R"), block(n(api.SLet, "v", e("w")))), []string{"A", "R", "w"}},
		{node{}, nil}, {n(99, "q", e("r")), []string{"r"}},
	} {
		if got := tree.Names(x.n); !slices.Equal(got, x.want) {
			t.Errorf("%v: %v", x.n, got)
		}
	}
}
