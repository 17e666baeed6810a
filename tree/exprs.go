package tree

import "plinth/api"

// Expr tells whether n is a formed expression.
func Expr(n api.Node) bool {
	switch n.Kind {
	case api.ENum:
		return noText(n) && n.N >= 0 && n.M == 0 && len(n.Parts) == 0
	case api.EStr:
		return plain(n) && len(n.Parts) == 0
	case api.ETrue, api.EFalse, api.ENull, api.EThis:
		return bare(n) && len(n.Parts) == 0
	case api.EName:
		return isName(n) && plain(n) && len(n.Parts) == 0
	case api.EObject:
		return bare(n) && all(n.Parts, valueField)
	case api.EArray:
		return bare(n) && all(n.Parts, Expr)
	case api.EMember:
		return isName(n) && plain(n) && exprs(n, 1)
	case api.EIndex:
		return bare(n) && exprs(n, 2)
	case api.ECall:
		return bare(n) && len(n.Parts) >= 1 && all(n.Parts, Expr)
	case api.ENew:
		return isName(n) && plain(n) && all(n.Parts, Expr)
	case api.EFunc:
		return noText(n) && n.M == 0 && routine(n, n.Parts, true)
	case api.EUnary:
		return (n.Text == "-" || n.Text == "!") && plain(n) && exprs(n, 1)
	case api.EBinary:
		return binarySign(n.Text) && plain(n) && exprs(n, 2)
	case api.ECond:
		return bare(n) && exprs(n, 3)
	case api.EAs:
		return bare(n) && len(n.Parts) == 2 && Expr(n.Parts[0]) && Type(n.Parts[1])
	case api.ESure, api.ETypeof:
		return bare(n) && exprs(n, 1)
	}
	return false
}

// exprs tells whether n has so many parts, all of them expressions.
func exprs(n api.Node, count int) bool {
	return len(n.Parts) == count && all(n.Parts, Expr)
}

func valueField(n api.Node) bool {
	return n.Kind == api.EField && isName(n) && plain(n) && exprs(n, 1)
}

func binarySign(s string) bool {
	switch s {
	case "+", "-", "*", "/", "%", "<", "<=", ">", ">=", "===", "!==", "&&", "||":
		return true
	}
	return false
}

// routine tells whether the parts are N YParams, a type, and, if it has one, a block.
func routine(n api.Node, parts []api.Node, block bool) bool {
	behind := 1
	if block {
		behind = 2
	}
	params := len(parts) - behind
	if params < 0 || n.N != int64(params) {
		return false
	}
	if !all(parts[:params], param) || !Type(parts[params]) {
		return false
	}
	return !block || isBlock(parts[params+1])
}

// Stat tells whether n is a formed statement.
func Stat(n api.Node) bool {
	switch n.Kind {
	case api.SConst, api.SLet:
		return isName(n) && n.M == 0 && held(n)
	case api.SAssign:
		return bare(n) && exprs(n, 2) && target(n.Parts[0])
	case api.SExpr, api.SThrow:
		return bare(n) && exprs(n, 1)
	case api.SIf:
		return noText(n) && n.M == 0 && branches(n)
	case api.SWhile:
		return bare(n) && len(n.Parts) == 2 && Expr(n.Parts[0]) && isBlock(n.Parts[1])
	case api.SReturn:
		return noText(n) && n.M == 0 && (n.N == 0 || n.N == 1) && exprs(n, int(n.N))
	case api.STry:
		return isName(n) && plain(n) && len(n.Parts) == 2 && all(n.Parts, isBlock)
	case api.SBlock:
		return isBlock(n)
	}
	return false
}

func isBlock(n api.Node) bool {
	return n.Kind == api.SBlock && bare(n) && all(n.Parts, Stat)
}

func target(n api.Node) bool {
	return n.Kind == api.EName || n.Kind == api.EMember
}

// held tells whether n has an expression, with N 1 a type ahead of it.
func held(n api.Node) bool {
	switch n.N {
	case 0:
		return exprs(n, 1)
	case 1:
		return len(n.Parts) == 2 && Type(n.Parts[0]) && Expr(n.Parts[1])
	}
	return false
}

func branches(n api.Node) bool {
	if n.N != 0 && n.N != 1 || len(n.Parts) != 2+int(n.N) {
		return false
	}
	return Expr(n.Parts[0]) && all(n.Parts[1:], isBlock)
}
