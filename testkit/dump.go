// Package testkit has what the tests of several layers share: short texts for trees, and types made from their texts.
package testkit

import (
	"strconv"
	"strings"

	"plinth/api"
)

// kindName tells a short name for a Node's kind.
func kindName(kind int) string {
	names := [...]string{
		api.YName: "Name", api.YNum: "Num", api.YStr: "Str", api.YArray: "Array", api.YTuple: "Tuple", api.YFunc: "Func",
		api.YObject: "Object", api.YField: "Field", api.YUnion: "Union", api.YBoth: "Both", api.YKeyof: "Keyof",
		api.YIndex: "Index", api.YMapped: "Mapped", api.YCond: "Cond", api.YInfer: "Infer", api.YParam: "Param",
		api.ENum: "num", api.EStr: "str", api.ETrue: "true", api.EFalse: "false", api.ENull: "null", api.EName: "name",
		api.EThis: "this", api.EObject: "object", api.EField: "field", api.EArray: "array", api.EMember: "member",
		api.EIndex: "index", api.ECall: "call", api.ENew: "new", api.EFunc: "func", api.EUnary: "unary",
		api.EBinary: "binary", api.ECond: "cond", api.EAs: "as", api.ESure: "sure", api.ETypeof: "typeof",
		api.SConst: "CONST", api.SLet: "LET", api.SAssign: "ASSIGN", api.SExpr: "EXPR", api.SIf: "IF", api.SWhile: "WHILE",
		api.SReturn: "RETURN", api.SThrow: "THROW", api.STry: "TRY", api.SBlock: "BLOCK",
		api.DImport: "DImport", api.DName: "DName", api.DType: "DType", api.DVar: "DVar", api.DInterface: "DInterface",
		api.DExtends: "DExtends", api.DClass: "DClass", api.DMeets: "DMeets", api.DHolds: "DHolds",
		api.DMethod: "DMethod", api.DFunc: "DFunc", api.DOver: "DOver", api.DConst: "DConst", api.DFile: "DFile",
	}
	if kind < 0 || kind >= len(names) || names[kind] == "" {
		return "?" + strconv.Itoa(kind)
	}
	return names[kind]
}

// Dump tells a tree: of each node its kind, its text behind a colon, N behind #, M behind !, its place behind @, its parts in brackets.
func Dump(n api.Node) string {
	return tell(n, true)
}

// Shape tells a tree as Dump does, without places.
func Shape(n api.Node) string {
	return tell(n, false)
}

func tell(n api.Node, places bool) string {
	var b strings.Builder
	b.WriteString(kindName(n.Kind))
	if n.Text != "" {
		b.WriteString(":" + n.Text)
	}
	if n.N != 0 {
		b.WriteString("#" + strconv.FormatInt(n.N, 10))
	}
	if n.M != 0 {
		b.WriteString("!" + strconv.FormatInt(n.M, 10))
	}
	if places {
		b.WriteString("@" + strconv.Itoa(n.At))
	}
	if len(n.Parts) == 0 {
		return b.String()
	}
	b.WriteString("(")
	for i, p := range n.Parts {
		if i > 0 {
			b.WriteString(" ")
		}
		b.WriteString(tell(p, places))
	}
	b.WriteString(")")
	return b.String()
}
