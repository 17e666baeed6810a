package show

import "plinth/api"

func (w *writer) stat(n api.Node) {
	switch n.Kind {
	case api.SBlock:
		w.say("{ ")
		for _, s := range n.Parts {
			w.stat(s)
			w.say(" ")
		}
		w.say("}")
	case api.SConst:
		w.say("const ")
		w.held(n)
	case api.SLet:
		w.say("let ")
		w.held(n)
	case api.SAssign:
		w.first(n.Parts[0])
		w.say(" = ")
		w.expr(n.Parts[1])
		w.say(";")
	case api.SExpr:
		w.first(n.Parts[0])
		w.say(";")
	case api.SThrow, api.SReturn:
		w.leaving(n)
	case api.SIf:
		w.under("if (", n)
		if n.N == 1 {
			w.say(" else ")
			w.stat(n.Parts[2])
		}
	case api.SWhile:
		w.under("while (", n)
	case api.STry:
		w.say("try ")
		w.stat(n.Parts[0])
		w.say(" catch (", n.Text, ") ")
		w.stat(n.Parts[1])
	}
}

// held writes a name, its type, if it has one, and what it holds.
func (w *writer) held(n api.Node) {
	w.say(n.Text)
	if len(n.Parts) == 2 {
		w.say(": ")
		w.typed(n.Parts[0])
	}
	w.say(" = ")
	w.expr(n.Parts[len(n.Parts)-1])
	w.say(";")
}

// first writes an expression with which a statement begins: a brace there would begin a block.
func (w *writer) first(n api.Node) {
	w.inBrackets(beginsWithBrace(n), n, w.expr)
}

func (w *writer) leaving(n api.Node) {
	word := "throw"
	if n.Kind == api.SReturn {
		word = "return"
	}
	w.say(word)
	w.listed(" ", n.Parts, w.expr, "")
	w.say(";")
}

// under writes a condition and the block that stands under it.
func (w *writer) under(head string, n api.Node) {
	w.say(head)
	w.expr(n.Parts[0])
	w.say(") ")
	w.stat(n.Parts[1])
}

func (w *writer) file(n api.Node) {
	for _, d := range n.Parts {
		if d.M == 1 {
			w.say("export ")
		}
		w.decl(d)
		w.say("\n")
	}
}

func (w *writer) decl(n api.Node) {
	switch n.Kind {
	case api.DImport:
		w.say("import { ")
		w.list(n.Parts, ", ", func(p api.Node) { w.say(p.Text) })
		w.say(" } from ")
		w.quote(n.Text)
		w.say(";")
	case api.DType:
		w.say("type ", n.Text)
		w.vars(n.Parts[:n.N])
		w.say(" = ")
		w.typed(n.Parts[n.N])
		w.say(";")
	case api.DInterface:
		w.meeting(n)
	case api.DClass:
		w.class(n)
	case api.DFunc, api.DOver:
		w.callable(n)
	case api.DConst:
		w.say("const ")
		w.held(n)
	}
}

// vars writes type variables, if there are any.
func (w *writer) vars(l []api.Node) {
	w.listed("<", l, func(v api.Node) {
		w.say(v.Text)
		w.listed(" extends ", v.Parts, w.typed, "")
	}, ">")
}

// leading tells how many of the parts from the first on are of a kind.
func leading(l []api.Node, kind int) int {
	for i, p := range l {
		if p.Kind != kind {
			return i
		}
	}
	return len(l)
}

func (w *writer) reference(n api.Node) {
	w.typed(n.Parts[0])
}

func (w *writer) meeting(n api.Node) {
	w.say("interface ", n.Text)
	w.vars(n.Parts[:n.N])
	rest := n.Parts[n.N:]
	count := leading(rest, api.DExtends)
	w.listed(" extends ", rest[:count], w.reference, "")
	w.say(" ")
	w.fields(rest[count:])
}

func (w *writer) class(n api.Node) {
	w.say("class ", n.Text)
	w.params(n.Parts[:n.N])
	rest := n.Parts[n.N:]
	if leading(rest, api.DExtends) == 1 {
		base := rest[0]
		w.say(" extends ", base.Parts[0].Text, "(")
		w.list(base.Parts[1:], ", ", w.expr)
		w.say(")")
		rest = rest[1:]
	}
	count := leading(rest, api.DMeets)
	w.listed(" implements ", rest[:count], w.reference, "")
	w.say(" { ")
	for _, m := range rest[count:] {
		w.member(m)
		w.say(" ")
	}
	w.say("}")
}

func (w *writer) member(n api.Node) {
	if n.Kind == api.DHolds {
		w.writable(n.N == 1)
		w.held(n)
		return
	}
	w.say(n.Text)
	w.routine(n.N, n.Parts, " ")
}

func (w *writer) callable(n api.Node) {
	w.say("function ", n.Text)
	count := leading(n.Parts, api.DVar)
	w.vars(n.Parts[:count])
	w.routine(n.N, n.Parts[count:], " ")
	if n.Kind == api.DOver {
		w.say(";")
	}
}
