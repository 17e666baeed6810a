package show

import "plinth/api"

func binaryLevel(sign string) int {
	switch sign {
	case "||":
		return 1
	case "&&":
		return 2
	case "===", "!==":
		return 3
	case "<", "<=", ">", ">=":
		return 4
	case "+", "-":
		return 5
	}
	return 6
}

func exprLevel(n api.Node) int {
	switch n.Kind {
	case api.ECond:
		return 0
	case api.EBinary:
		return binaryLevel(n.Text)
	case api.EUnary, api.ETypeof:
		return 7
	case api.EAs:
		return 8
	}
	return 9
}

// needs tells the level that the part i of n must have to stand without brackets.
func needs(n api.Node, i int) int {
	switch n.Kind {
	case api.EBinary:
		level := binaryLevel(n.Text)
		if level == 3 || level == 4 {
			return level + 1
		}
		return level + i
	case api.EUnary, api.ETypeof:
		return 7
	case api.EAs:
		return 8
	case api.EMember, api.EIndex, api.ECall, api.ESure:
		if i == 0 {
			return 9
		}
	case api.ECond:
		if i == 0 {
			return 1
		}
	}
	return 0
}

// bracketed tells whether the part i of n, an expression, stands in brackets.
func bracketed(n api.Node, i int) bool {
	part := n.Parts[i]
	if exprLevel(part) < needs(n, i) {
		return true
	}
	return i == 0 && n.Kind == api.EBinary && n.Text == "<" && endsInAs(part)
}

// endsInAs tells whether a < right behind n would be read as the beginning of types.
func endsInAs(n api.Node) bool {
	switch n.Kind {
	case api.EAs:
		return true
	case api.EUnary, api.ETypeof:
		return !bracketed(n, 0) && endsInAs(n.Parts[0])
	case api.EBinary:
		return !bracketed(n, 1) && endsInAs(n.Parts[1])
	}
	return false
}

// beginsWithBrace tells whether the text of n does.
func beginsWithBrace(n api.Node) bool {
	switch n.Kind {
	case api.EObject:
		return true
	case api.EMember, api.EIndex, api.ECall, api.ESure, api.EBinary, api.ECond, api.EAs:
		return !bracketed(n, 0) && beginsWithBrace(n.Parts[0])
	}
	return false
}

// part writes the part i of n, in brackets where it needs them.
func (w *writer) part(n api.Node, i int) {
	w.inBrackets(bracketed(n, i), n.Parts[i], w.expr)
}

func (w *writer) expr(n api.Node) {
	switch n.Kind {
	case api.ENum:
		w.number(n.N)
	case api.EStr:
		w.quote(n.Text)
	case api.ETrue:
		w.say("true")
	case api.EFalse:
		w.say("false")
	case api.ENull:
		w.say("null")
	case api.EThis:
		w.say("this")
	case api.EName:
		w.say(n.Text)
	case api.EObject:
		w.say("{ ")
		w.listed("", n.Parts, func(f api.Node) {
			w.say(f.Text, ": ")
			w.expr(f.Parts[0])
		}, " ")
		w.say("}")
	case api.EArray:
		w.say("[")
		w.list(n.Parts, ", ", w.expr)
		w.say("]")
	case api.ENew:
		w.say("new ", n.Text, "(")
		w.list(n.Parts, ", ", w.expr)
		w.say(")")
	case api.EFunc:
		w.routine(n.N, n.Parts, " => ")
	default:
		w.joined(n)
	}
}

// joined writes an expression whose parts may need brackets.
func (w *writer) joined(n api.Node) {
	switch n.Kind {
	case api.EUnary:
		w.say(n.Text)
		w.part(n, 0)
		return
	case api.ETypeof:
		w.say("typeof ")
		w.part(n, 0)
		return
	}
	w.part(n, 0)
	switch n.Kind {
	case api.EMember:
		w.say(".", n.Text)
	case api.EIndex:
		w.say("[")
		w.part(n, 1)
		w.say("]")
	case api.ECall:
		w.say("(")
		w.list(n.Parts[1:], ", ", w.expr)
		w.say(")")
	case api.EBinary:
		w.say(" ", n.Text, " ")
		w.part(n, 1)
	case api.ECond:
		w.say(" ? ")
		w.part(n, 1)
		w.say(" : ")
		w.part(n, 2)
	case api.EAs:
		w.say(" as ")
		w.typeAt(3)(n.Parts[1])
	case api.ESure:
		w.say("!")
	}
}

// routine writes parameters, a result, and, if there is one, a block, with what stands ahead of it.
func (w *writer) routine(params int64, parts []api.Node, ahead string) {
	w.params(parts[:params])
	w.say(": ")
	w.typed(parts[params])
	if int64(len(parts)) > params+1 {
		w.say(ahead)
		w.stat(parts[params+1])
	}
}
