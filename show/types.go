package show

import "plinth/api"

func typeLevel(n api.Node) int {
	switch n.Kind {
	case api.YCond, api.YFunc:
		return 0
	case api.YUnion:
		return 1
	case api.YBoth:
		return 2
	case api.YKeyof:
		return 3
	}
	return 4
}

// typeAt makes a writer of a part that needs a level.
func (w *writer) typeAt(level int) func(api.Node) {
	return func(n api.Node) {
		w.inBrackets(typeLevel(n) < level, n, w.typed)
	}
}

func (w *writer) typed(n api.Node) {
	switch n.Kind {
	case api.YName:
		w.say(n.Text)
		w.listed("<", n.Parts, w.typed, ">")
	case api.YNum:
		w.number(n.N)
	case api.YStr:
		w.quote(n.Text)
	case api.YArray:
		w.typeAt(4)(n.Parts[0])
		w.say("[]")
	case api.YTuple:
		w.say("[")
		w.list(n.Parts, ", ", w.typed)
		w.say("]")
	case api.YFunc:
		last := len(n.Parts) - 1
		w.params(n.Parts[:last])
		w.say(" => ")
		w.typed(n.Parts[last])
	case api.YObject:
		w.fields(n.Parts)
	case api.YUnion:
		w.list(n.Parts, " | ", w.typeAt(2))
	case api.YBoth:
		w.list(n.Parts, " & ", w.typeAt(3))
	case api.YKeyof:
		w.say("keyof ")
		w.typeAt(3)(n.Parts[0])
	case api.YIndex:
		w.typeAt(4)(n.Parts[0])
		w.say("[")
		w.typed(n.Parts[1])
		w.say("]")
	case api.YMapped:
		w.mapped(n)
	case api.YCond:
		w.typeAt(1)(n.Parts[0])
		w.say(" extends ")
		w.typeAt(1)(n.Parts[1])
		w.say(" ? ")
		w.typed(n.Parts[2])
		w.say(" : ")
		w.typed(n.Parts[3])
	case api.YInfer:
		w.say("infer ", n.Text)
	}
}

// params writes parameters and the brackets around them.
func (w *writer) params(l []api.Node) {
	w.say("(")
	w.list(l, ", ", func(p api.Node) { w.typedName(p.Text, p.Parts[0]) })
	w.say(")")
}

func (w *writer) typedName(name string, t api.Node) {
	w.say(name, ": ")
	w.typed(t)
}

// fields writes fields and the braces around them.
func (w *writer) fields(l []api.Node) {
	w.say("{ ")
	for _, f := range l {
		w.writable(f.N&2 != 0)
		w.say(f.Text)
		w.optional(f)
		w.say(": ")
		w.typed(f.Parts[0])
		w.say("; ")
	}
	w.say("}")
}

func (w *writer) mapped(n api.Node) {
	w.say("{ ")
	w.writable(n.N&2 != 0)
	w.say("[", n.Text, " in ")
	w.typed(n.Parts[0])
	w.say("]")
	w.optional(n)
	w.say(": ")
	w.typed(n.Parts[1])
	w.say(" }")
}

func (w *writer) writable(is bool) {
	if is {
		w.say("mut ")
	}
}

func (w *writer) optional(n api.Node) {
	if n.N&1 != 0 {
		w.say("?")
	}
}
