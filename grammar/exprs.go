package grammar

import "plinth/api"

// Exprs reads expressions and statements.
type Exprs struct {
	Types
}

// Expr reads an expression.
func (r *Exprs) Expr() api.Node {
	n := r.node(api.ECond)
	asked := r.or()
	if r.take("?") == "" {
		return asked
	}
	yes := r.Expr()
	r.want(":")
	n.Parts = []api.Node{asked, yes, r.Expr()}
	return n
}

func (r *Exprs) or() api.Node {
	return r.level(r.and, "||")
}

func (r *Exprs) and() api.Node {
	return r.level(r.eq, "&&")
}

func (r *Exprs) eq() api.Node {
	return r.once(r.rel, "===", "!==")
}

func (r *Exprs) rel() api.Node {
	return r.once(r.sum, "<", "<=", ">", ">=")
}

func (r *Exprs) sum() api.Node {
	return r.level(r.prod, "+", "-")
}

func (r *Exprs) prod() api.Node {
	return r.level(r.un, "*", "/", "%")
}

// level reads parts with any of the signs between, from the left.
func (r *Exprs) level(part func() api.Node, signs ...string) api.Node {
	start := r.node(api.EBinary)
	n := part()
	for sign := r.take(signs...); sign != ""; sign = r.take(signs...) {
		outer := start
		outer.Text, outer.Parts = sign, []api.Node{n, part()}
		n = outer
	}
	return n
}

// once reads a part, or two with one of the signs between.
func (r *Exprs) once(part func() api.Node, signs ...string) api.Node {
	n := r.node(api.EBinary)
	first := part()
	n.Text = r.take(signs...)
	if n.Text == "" {
		return first
	}
	n.Parts = []api.Node{first, part()}
	return n
}

func (r *Exprs) un() api.Node {
	n := r.node(api.EUnary)
	switch sign := r.take("-", "!", "typeof"); sign {
	case "":
		return r.cast()
	case "typeof":
		n.Kind = api.ETypeof
	default:
		n.Text = sign
	}
	n.Parts = []api.Node{r.un()}
	return n
}

func (r *Exprs) cast() api.Node {
	start := r.node(api.EAs)
	n := r.tail()
	for r.take("as") != "" {
		outer := start
		outer.Parts = []api.Node{n, r.post()}
		n = outer
	}
	return n
}

func (r *Exprs) tail() api.Node {
	start := r.node(0)
	n := r.atom()
	for sign := r.take(".", "[", "(", "!"); sign != ""; sign = r.take(".", "[", "(", "!") {
		outer := start
		outer.Parts = []api.Node{n}
		switch sign {
		case ".":
			outer.Kind, outer.Text = api.EMember, r.name()
		case "[":
			outer.Kind, outer.Parts = api.EIndex, append(outer.Parts, r.Expr())
			r.want("]")
		case "(":
			outer.Kind, outer.Parts = api.ECall, append(outer.Parts, r.upTo(")", r.Expr)...)
		case "!":
			outer.Kind = api.ESure
		}
		n = outer
	}
	return n
}

func (r *Exprs) atom() api.Node {
	t := r.now()
	n := r.node(api.EName)
	switch t.Kind {
	case api.TName:
		n.Text = t.Text
	case api.TNumber:
		n.Kind, n.N = api.ENum, t.N
	case api.TString:
		n.Kind, n.Text = api.EStr, t.Text
	case api.TWord:
		return r.wordAtom()
	case api.TSign:
		return r.bracketAtom()
	default:
		r.fail()
	}
	r.step()
	return n
}

func (r *Exprs) wordAtom() api.Node {
	n := r.node(api.ENew)
	switch r.take("true", "false", "null", "this", "new") {
	case "true":
		n.Kind = api.ETrue
	case "false":
		n.Kind = api.EFalse
	case "null":
		n.Kind = api.ENull
	case "this":
		n.Kind = api.EThis
	case "new":
		n.Text = r.name()
		r.want("(")
		n.Parts = r.upTo(")", r.Expr)
	default:
		r.fail()
	}
	return n
}

func (r *Exprs) bracketAtom() api.Node {
	n := r.node(api.EFunc)
	switch r.sees("(", "[", "{") {
	case "(":
		if r.function() {
			r.routine(&n)
			r.want("=>")
			n.Parts = append(n.Parts, r.Block())
			return n
		}
		r.step()
		n = r.Expr()
		r.want(")")
	case "[":
		r.step()
		n.Kind, n.Parts = api.EArray, r.upTo("]", r.Expr)
	case "{":
		r.step()
		n.Kind, n.Parts = api.EObject, r.upTo("}", r.valueField)
	default:
		r.fail()
	}
	return n
}

// routine reads parameters, a colon and a result into n.
func (r *Exprs) routine(n *api.Node) {
	params := r.params()
	n.N = int64(len(params))
	r.want(":")
	n.Parts = append(n.Parts, params...)
	n.Parts = append(n.Parts, r.Type())
}

func (r *Exprs) valueField() api.Node {
	n := r.node(api.EField)
	n.Text = r.name()
	r.want(":")
	n.Parts = []api.Node{r.Expr()}
	return n
}

// Block reads a block.
func (r *Exprs) Block() api.Node {
	n := r.node(api.SBlock)
	r.want("{")
	for r.take("}") == "" {
		n.Parts = append(n.Parts, r.stat())
	}
	return n
}

func (r *Exprs) stat() api.Node {
	n := r.node(api.SExpr)
	switch r.sees("const", "let", "if", "while", "return", "throw", "try", "{") {
	case "const":
		n.Kind = api.SConst
		return r.held(n)
	case "let":
		n.Kind = api.SLet
		return r.held(n)
	case "if":
		return r.branches(n)
	case "while":
		r.step()
		n.Kind, n.Parts = api.SWhile, []api.Node{r.condition(), r.Block()}
		return n
	case "return":
		return r.back(n)
	case "throw":
		r.step()
		n.Kind, n.Parts = api.SThrow, []api.Node{r.Expr()}
		r.want(";")
		return n
	case "try":
		return r.trial(n)
	case "{":
		return r.Block()
	}
	return r.plain(n)
}

func (r *Exprs) held(n api.Node) api.Node {
	r.step()
	n.Text = r.name()
	if r.take(":") != "" {
		n.N, n.Parts = 1, []api.Node{r.Type()}
	}
	r.want("=")
	n.Parts = append(n.Parts, r.Expr())
	r.want(";")
	return n
}

// condition reads an expression in brackets.
func (r *Exprs) condition() api.Node {
	r.want("(")
	n := r.Expr()
	r.want(")")
	return n
}

func (r *Exprs) branches(n api.Node) api.Node {
	r.step()
	n.Kind, n.Parts = api.SIf, []api.Node{r.condition(), r.Block()}
	if r.take("else") != "" {
		n.N, n.Parts = 1, append(n.Parts, r.Block())
	}
	return n
}

func (r *Exprs) back(n api.Node) api.Node {
	r.step()
	n.Kind = api.SReturn
	if r.take(";") != "" {
		return n
	}
	n.N, n.Parts = 1, []api.Node{r.Expr()}
	r.want(";")
	return n
}

func (r *Exprs) trial(n api.Node) api.Node {
	r.step()
	n.Kind = api.STry
	first := r.Block()
	r.want("catch")
	r.want("(")
	n.Text = r.name()
	r.want(")")
	n.Parts = []api.Node{first, r.Block()}
	return n
}

// plain reads an expression as a statement, or what is written to it.
func (r *Exprs) plain(n api.Node) api.Node {
	first := r.Expr()
	n.Parts = []api.Node{first}
	target := first.Kind == api.EName || first.Kind == api.EMember
	if target && r.take("=") != "" {
		n.Kind, n.Parts = api.SAssign, append(n.Parts, r.Expr())
	}
	r.want(";")
	return n
}
