package grammar

import "plinth/api"

// Files reads whole files.
type Files struct {
	Exprs
}

// File reads all declarations, and tells what is wrong in those that it leaves out.
func (r *Files) File() (api.Node, []api.Diag) {
	file := api.Node{Kind: api.DFile}
	var diags []api.Diag
	for r.now().Kind != api.TEnd {
		n, wrong := r.try(r.decl)
		if wrong.e == api.OK {
			file.Parts = append(file.Parts, n)
			continue
		}
		diags = append(diags, api.Diag{At: r.list[wrong.at].At, Code: code(wrong.e)})
		r.skip(wrong.at)
	}
	return file, diags
}

func code(e api.Errno) int {
	if e == api.ErrDeep {
		return 2
	}
	return 1
}

// skip goes behind what is left of a declaration that is wrong from the token at on.
func (r *Files) skip(at int) {
	r.at, r.open = at, 0
	braces := 0
	for t := r.now(); t.Kind != api.TEnd; t = r.now() {
		r.at++
		switch {
		case isSign(t, "{"):
			braces++
		case isSign(t, "}"):
			braces--
			if braces <= 0 {
				return
			}
		case isSign(t, ";") && braces == 0:
			return
		}
	}
}

func (r *Files) decl() api.Node {
	start := r.node(api.DImport)
	if r.sees("import") != "" {
		return r.imports(start)
	}
	if r.take("export") != "" {
		start.M = 1
	}
	switch r.take("type", "interface", "class", "function", "const") {
	case "type":
		return r.alias(start)
	case "interface":
		return r.meeting(start)
	case "class":
		return r.class(start)
	case "function":
		return r.callable(start)
	case "const":
		return r.constant(start)
	}
	r.fail()
	return start
}

func (r *Files) imports(n api.Node) api.Node {
	r.step()
	r.want("{")
	n.Parts = r.listed(func() api.Node {
		one := r.node(api.DName)
		one.Text = r.name()
		return one
	})
	r.want("}")
	r.want("from")
	t := r.now()
	if t.Kind != api.TString {
		r.fail()
	}
	r.step()
	n.Text = t.Text
	r.want(";")
	return n
}

func (r *Files) alias(n api.Node) api.Node {
	n.Kind, n.Text = api.DType, r.name()
	n.Parts = r.vars()
	n.N = int64(len(n.Parts))
	r.want("=")
	n.Parts = append(n.Parts, r.Type())
	r.want(";")
	return n
}

// vars reads type variables, if there are any.
func (r *Files) vars() []api.Node {
	if r.take("<") == "" {
		return nil
	}
	l := r.listed(r.variable)
	r.want(">")
	return l
}

func (r *Files) variable() api.Node {
	n := r.node(api.DVar)
	n.Text = r.name()
	if r.take("extends") != "" {
		n.N, n.Parts = 1, []api.Node{r.Type()}
	}
	return n
}

// reference makes a reader of a type's name, with its types, as a part of that kind.
func (r *Files) reference(kind int) func() api.Node {
	return func() api.Node {
		n := r.node(kind)
		n.Parts = []api.Node{r.named()}
		return n
	}
}

func (r *Files) meeting(n api.Node) api.Node {
	n.Kind, n.Text = api.DInterface, r.name()
	n.Parts = r.vars()
	n.N = int64(len(n.Parts))
	if r.take("extends") != "" {
		n.Parts = append(n.Parts, r.listed(r.reference(api.DExtends))...)
	}
	r.want("{")
	n.Parts = append(n.Parts, r.fields()...)
	return n
}

func (r *Files) class(n api.Node) api.Node {
	n.Kind, n.Text = api.DClass, r.name()
	n.Parts = r.params()
	n.N = int64(len(n.Parts))
	if r.take("extends") != "" {
		n.Parts = append(n.Parts, r.base())
	}
	if r.take("implements") != "" {
		n.Parts = append(n.Parts, r.listed(r.reference(api.DMeets))...)
	}
	r.want("{")
	methods := false
	for r.take("}") == "" {
		m := r.member(methods)
		methods = m.Kind == api.DMethod
		n.Parts = append(n.Parts, m)
	}
	return n
}

// base reads the class that a class extends, and its arguments.
func (r *Files) base() api.Node {
	n := r.node(api.DExtends)
	name := r.node(api.YName)
	name.Text = r.name()
	r.want("(")
	n.Parts = append([]api.Node{name}, r.upTo(")", r.Expr)...)
	return n
}

// member reads a DHolds or a DMethod; behind the first method there are methods alone.
func (r *Files) member(methods bool) api.Node {
	n := r.node(api.DHolds)
	if !methods {
		n.N = r.flag("mut", 1)
	}
	n.Text = r.name()
	if n.N == 1 || !methods && r.sees("(") == "" {
		r.want(":")
		n.Parts = []api.Node{r.Type()}
		r.want("=")
		n.Parts = append(n.Parts, r.Expr())
		r.want(";")
		return n
	}
	n.Kind = api.DMethod
	r.routine(&n)
	n.Parts = append(n.Parts, r.Block())
	return n
}

func (r *Files) callable(n api.Node) api.Node {
	n.Kind, n.Text = api.DFunc, r.name()
	n.Parts = r.vars()
	r.routine(&n)
	if r.take(";") != "" {
		n.Kind = api.DOver
		return n
	}
	n.Parts = append(n.Parts, r.Block())
	return n
}

func (r *Files) constant(n api.Node) api.Node {
	n.Kind, n.Text = api.DConst, r.name()
	r.want(":")
	n.Parts = []api.Node{r.Type()}
	r.want("=")
	n.Parts = append(n.Parts, r.Expr())
	r.want(";")
	return n
}
