package grammar

import "plinth/api"

// Types reads types.
type Types struct {
	Tokens
}

// Type reads a type.
func (r *Types) Type() api.Node {
	n := r.node(api.YCond)
	asked := r.union()
	if r.take("extends") == "" {
		return asked
	}
	of := r.union()
	r.want("?")
	yes := r.Type()
	r.want(":")
	n.Parts = []api.Node{asked, of, yes, r.Type()}
	return n
}

func (r *Types) union() api.Node {
	return r.joined(api.YUnion, "|", func() api.Node {
		return r.joined(api.YBoth, "&", r.post)
	})
}

// joined reads parts with a sign between; one alone is itself.
func (r *Types) joined(kind int, sign string, part func() api.Node) api.Node {
	n := r.node(kind)
	first := part()
	if r.sees(sign) == "" {
		return first
	}
	n.Parts = []api.Node{first}
	for r.take(sign) != "" {
		n.Parts = append(n.Parts, part())
	}
	return n
}

func (r *Types) post() api.Node {
	start := r.node(api.YArray)
	n := r.prim()
	for r.take("[") != "" {
		outer := start
		outer.Parts = []api.Node{n}
		if r.take("]") == "" {
			outer.Kind = api.YIndex
			outer.Parts = append(outer.Parts, r.Type())
			r.want("]")
		}
		n = outer
	}
	return n
}

func (r *Types) prim() api.Node {
	t := r.now()
	n := r.node(api.YName)
	switch t.Kind {
	case api.TName:
		return r.named()
	case api.TNumber:
		n.Kind, n.N = api.YNum, t.N
	case api.TString:
		n.Kind, n.Text = api.YStr, t.Text
	case api.TWord:
		return r.word()
	case api.TSign:
		return r.bracketed()
	default:
		r.fail()
	}
	r.step()
	return n
}

// named reads a name and its types.
func (r *Types) named() api.Node {
	n := r.node(api.YName)
	n.Text = r.name()
	if r.take("<") != "" {
		n.Parts = r.listed(r.Type)
		r.want(">")
	}
	return n
}

func (r *Types) word() api.Node {
	n := r.node(api.YName)
	switch s := r.now().Text; s {
	case "any", "unknown", "never", "null", "boolean", "number", "string", "true", "false":
		r.step()
		n.Text = s
	case "keyof":
		r.step()
		n.Kind, n.Parts = api.YKeyof, []api.Node{r.post()}
	case "infer":
		r.step()
		n.Kind, n.Text = api.YInfer, r.name()
	default:
		r.fail()
	}
	return n
}

// bracketed reads a type that begins with a bracket.
func (r *Types) bracketed() api.Node {
	n := r.node(api.YFunc)
	switch r.sees("(", "[", "{") {
	case "(":
		if r.function() {
			n.Parts = r.params()
			r.want("=>")
			n.Parts = append(n.Parts, r.Type())
			return n
		}
		r.step()
		n = r.Type()
		r.want(")")
	case "[":
		r.step()
		n.Kind, n.Parts = api.YTuple, r.upTo("]", r.Type)
	case "{":
		return r.braced()
	default:
		r.fail()
	}
	return n
}

// params reads parameters and the brackets around them.
func (r *Types) params() []api.Node {
	r.want("(")
	return r.upTo(")", r.param)
}

func (r *Types) param() api.Node {
	n := r.node(api.YParam)
	n.Text = r.name()
	r.want(":")
	n.Parts = []api.Node{r.Type()}
	return n
}

// braced reads an object's or a mapped type.
func (r *Types) braced() api.Node {
	n := r.node(api.YObject)
	r.want("{")
	first := r.now()
	keyed := isSign(first, "[") || first.Kind == api.TWord && first.Text == "mut" && isSign(r.behind(1), "[")
	if keyed {
		return r.mapped(n)
	}
	n.Parts = r.fields()
	return n
}

func (r *Types) mapped(n api.Node) api.Node {
	n.Kind = api.YMapped
	n.N = r.flag("mut", 2)
	r.want("[")
	n.Text = r.name()
	r.want("in")
	keys := r.Type()
	r.want("]")
	n.N += r.flag("?", 1)
	r.want(":")
	n.Parts = []api.Node{keys, r.Type()}
	r.want("}")
	return n
}

// fields reads the fields up to the brace that ends them.
func (r *Types) fields() []api.Node {
	var l []api.Node
	for r.take("}") == "" {
		l = append(l, r.field())
	}
	return l
}

func (r *Types) field() api.Node {
	n := r.node(api.YField)
	n.N = r.flag("mut", 2)
	n.Text = r.name()
	n.N += r.flag("?", 1)
	r.want(":")
	n.Parts = []api.Node{r.Type()}
	r.want(";")
	return n
}

// flag tells what a sign is worth, if it comes now, else 0.
func (r *Types) flag(sign string, worth int64) int64 {
	if r.take(sign) == "" {
		return 0
	}
	return worth
}
