package tree

import "plinth/api"

// File tells whether n is a formed file.
func File(n api.Node) bool {
	if n.Kind != api.DFile || !bare(n) || Nodes(n) > api.MaxTokens {
		return false
	}
	return all(n.Parts, decl)
}

// place is a place among parts.
type place struct {
	at int
}

func (p *place) step() {
	p.at++
}

// walker goes through the parts of a declaration.
type walker struct {
	place
	parts []api.Node
}

// while steps over the parts of a kind, and tells whether all of them are formed so.
func (w *walker) while(kind int, is func(api.Node) bool) bool {
	for w.at < len(w.parts) && w.parts[w.at].Kind == kind {
		if !is(w.parts[w.at]) {
			return false
		}
		w.step()
	}
	return true
}

// times steps over so many parts, and tells whether all of them are there and formed so.
func (w *walker) times(count int64, is func(api.Node) bool) bool {
	if count < 0 || count > int64(len(w.parts)-w.at) {
		return false
	}
	for range count {
		if !is(w.parts[w.at]) {
			return false
		}
		w.step()
	}
	return true
}

// done tells whether there is no part left.
func (w *walker) done() bool {
	return w.at == len(w.parts)
}

func decl(n api.Node) bool {
	w := &walker{parts: n.Parts}
	if n.Kind == api.DImport {
		return plain(n) && len(n.Parts) >= 1 && all(n.Parts, importName)
	}
	if n.M != 0 && n.M != 1 || !isName(n) {
		return false
	}
	switch n.Kind {
	case api.DType:
		return w.times(n.N, variable) && w.times(1, Type) && w.done()
	case api.DInterface:
		return w.times(n.N, variable) && w.while(api.DExtends, refers) && w.while(api.YField, field) && w.done()
	case api.DClass:
		return class(n, w)
	case api.DFunc:
		return w.while(api.DVar, variable) && routine(n, w.parts[w.at:], true)
	case api.DOver:
		return w.while(api.DVar, variable) && routine(n, w.parts[w.at:], false)
	case api.DConst:
		return n.N == 0 && w.times(1, Type) && w.times(1, Expr) && w.done()
	}
	return false
}

func class(n api.Node, w *walker) bool {
	if !w.times(n.N, param) {
		return false
	}
	if w.at < len(w.parts) && w.parts[w.at].Kind == api.DExtends && !w.times(1, base) {
		return false
	}
	return w.while(api.DMeets, refers) && w.while(api.DHolds, holds) && w.while(api.DMethod, method) && w.done()
}

func importName(n api.Node) bool {
	return n.Kind == api.DName && isName(n) && plain(n) && len(n.Parts) == 0
}

func variable(n api.Node) bool {
	return n.Kind == api.DVar && isName(n) && n.M == 0 && (n.N == 0 || n.N == 1) && types(n, int(n.N))
}

// refers tells whether n, a DExtends of an interface or a DMeets, has one name of a type.
func refers(n api.Node) bool {
	return bare(n) && len(n.Parts) == 1 && reference(n.Parts[0])
}

// base tells whether n, a DExtends of a class, has a class's name and arguments.
func base(n api.Node) bool {
	if !bare(n) || len(n.Parts) == 0 || len(n.Parts[0].Parts) != 0 {
		return false
	}
	return reference(n.Parts[0]) && all(n.Parts[1:], Expr)
}

func holds(n api.Node) bool {
	if !isName(n) || n.M != 0 || n.N != 0 && n.N != 1 {
		return false
	}
	return len(n.Parts) == 2 && Type(n.Parts[0]) && Expr(n.Parts[1])
}

func method(n api.Node) bool {
	return isName(n) && n.M == 0 && routine(n, n.Parts, true)
}
