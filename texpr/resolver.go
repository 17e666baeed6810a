package texpr

import (
	"slices"
	"strings"

	"plinth/api"
	"plinth/types"
)

// resolver resolves types in one call: bound counts how often a variable is in the scope, and asked how many KConds'
// second parts are around the place that it is at.
type resolver struct {
	names map[string]Name
	bound map[string]int
	asked int
	diags []api.Diag
}

func newResolver(s Scope) *resolver {
	r := &resolver{names: map[string]Name{}, bound: map[string]int{}}
	for _, n := range s.Names {
		if _, found := r.names[n.Text]; !found {
			r.names[n.Text] = n
		}
	}
	for _, v := range s.Vars {
		r.bound[v]++
	}
	return r
}

// wrong tells a Diag; what is wrong means KAny.
func (r *resolver) wrong(at, code int, text string) api.Type {
	r.diags = append(r.diags, api.Diag{At: at, Code: code, Text: text})
	return api.Type{Kind: api.KAny}
}

// whole resolves an outermost type.
func (r *resolver) whole(n api.Node, at int) api.Type {
	return r.limited(r.of(n), at)
}

func (r *resolver) limited(t api.Type, at int) api.Type {
	if types.Nodes(t) > api.MaxParts {
		return r.wrong(at, tooLarge, "")
	}
	return t
}

// within resolves a type with variables in the scope.
func (r *resolver) within(names []string, n api.Node) api.Type {
	for _, name := range names {
		r.bound[name]++
	}
	t := r.of(n)
	for _, name := range names {
		r.bound[name]--
	}
	return t
}

func (r *resolver) all(l []api.Node) []api.Type {
	var out []api.Type
	for _, n := range l {
		out = append(out, r.of(n))
	}
	return out
}

func (r *resolver) of(n api.Node) api.Type {
	switch n.Kind {
	case api.YName:
		return r.named(n)
	case api.YNum:
		return api.Type{Kind: api.KNum, N: n.N}
	case api.YStr:
		return api.Type{Kind: api.KStr, Text: n.Text}
	case api.YArray:
		return api.Type{Kind: api.KArray, Parts: r.all(n.Parts)}
	case api.YTuple:
		return api.Type{Kind: api.KTuple, Parts: r.all(n.Parts)}
	case api.YKeyof:
		return api.Type{Kind: api.KKeyof, Parts: r.all(n.Parts)}
	case api.YIndex:
		return api.Type{Kind: api.KIndex, Parts: r.all(n.Parts)}
	case api.YFunc:
		return api.Type{Kind: api.KFunc, Parts: r.function(n.Parts)}
	case api.YObject:
		return r.object(n)
	case api.YUnion:
		return types.Union(r.all(n.Parts)...)
	case api.YBoth:
		return r.both(n)
	case api.YMapped:
		keys := r.of(n.Parts[0])
		body := r.within([]string{n.Text}, n.Parts[1])
		return api.Type{Kind: api.KMapped, Text: n.Text, N: n.N, Parts: []api.Type{keys, body}}
	case api.YCond:
		return r.cond(n)
	}
	if r.asked == 0 {
		return r.wrong(n.At, noInfer, n.Text)
	}
	return api.Type{Kind: api.KInfer, Text: n.Text}
}

// function resolves the types of parameters and the result.
func (r *resolver) function(l []api.Node) []api.Type {
	var out []api.Type
	for _, n := range l {
		if n.Kind == api.YParam {
			n = n.Parts[0]
		}
		out = append(out, r.of(n))
	}
	return out
}

// word tells what a word means.
func word(s string) (api.Type, bool) {
	switch s {
	case "any":
		return api.Type{Kind: api.KAny}, true
	case "unknown":
		return api.Type{Kind: api.KUnknown}, true
	case "never":
		return api.Type{Kind: api.KNever}, true
	case "null":
		return api.Type{Kind: api.KNull}, true
	case "number":
		return api.Type{Kind: api.KNumber}, true
	case "string":
		return api.Type{Kind: api.KString}, true
	case "true":
		return api.Type{Kind: api.KTrue}, true
	case "false":
		return api.Type{Kind: api.KFalse}, true
	case "boolean":
		return types.Union(api.Type{Kind: api.KTrue}, api.Type{Kind: api.KFalse}), true
	}
	return api.Type{}, false
}

func (r *resolver) named(n api.Node) api.Type {
	if t, is := word(n.Text); is {
		return t
	}
	args := r.all(n.Parts)
	name, found := r.names[n.Text]
	switch {
	case r.bound[n.Text] > 0 && len(args) == 0:
		return api.Type{Kind: api.KVar, Text: n.Text}
	case r.bound[n.Text] > 0, found && name.Arity != len(args):
		return r.wrong(n.At, wrongCount, n.Text)
	case !found:
		return r.wrong(n.At, noType, n.Text)
	}
	return api.Type{Kind: api.KRef, Text: name.Global, Parts: args}
}

func (r *resolver) object(n api.Node) api.Type {
	out := api.Type{Kind: api.KObject}
	seen := map[string]struct{}{}
	for _, f := range n.Parts {
		if _, found := seen[f.Text]; found {
			r.wrong(f.At, twice, f.Text)
			continue
		}
		seen[f.Text] = struct{}{}
		out.Fields = append(out.Fields, api.Field{Name: f.Text, Flags: int(f.N), Type: r.of(f.Parts[0])})
	}
	byName(out.Fields)
	return out
}

func byName(l []api.Field) {
	slices.SortFunc(l, func(a, b api.Field) int { return strings.Compare(a.Name, b.Name) })
}

func (r *resolver) both(n api.Node) api.Type {
	parts := r.all(n.Parts)
	if allOf(parts, api.KFunc) {
		return api.Type{Kind: api.KOver, Parts: parts}
	}
	if allOf(parts, api.KObject) {
		if t, ok := merged(parts); ok {
			return t
		}
	}
	return r.wrong(n.At, notBoth, "")
}

func allOf(l []api.Type, kind int) bool {
	for _, t := range l {
		if t.Kind != kind {
			return false
		}
	}
	return true
}

// merged puts objects together, if those of their fields that have one name are the same.
func merged(l []api.Type) (api.Type, bool) {
	out := api.Type{Kind: api.KObject}
	seen := map[string]api.Field{}
	for _, t := range l {
		for _, f := range t.Fields {
			have, found := seen[f.Name]
			if !found {
				seen[f.Name] = f
				out.Fields = append(out.Fields, f)
				continue
			}
			if have.Flags != f.Flags || types.Order(have.Type, f.Type) != 0 {
				return api.Type{}, false
			}
		}
	}
	byName(out.Fields)
	return out, true
}

func (r *resolver) cond(n api.Node) api.Type {
	out := api.Type{Kind: api.KCond}
	first := r.of(n.Parts[0])
	if first.Kind == api.KVar {
		out.N, out.Text = 1, first.Text
	}
	r.asked++
	second := r.of(n.Parts[1])
	r.asked--
	third := r.within(infers(n.Parts[1], nil), n.Parts[2])
	out.Parts = []api.Type{first, second, third, r.of(n.Parts[3])}
	return out
}

// infers tells the names of the YInfers of a YCond's second part, but those in the second part of a YCond within it.
func infers(n api.Node, names []string) []string {
	if n.Kind == api.YInfer {
		names = append(names, n.Text)
	}
	for i, p := range n.Parts {
		if n.Kind != api.YCond || i != 1 {
			names = infers(p, names)
		}
	}
	return names
}

func (r *resolver) variables(l []api.Node) []api.Var {
	for _, v := range l {
		r.bound[v.Text]++
	}
	var out []api.Var
	seen := map[string]struct{}{}
	for _, v := range l {
		if _, found := seen[v.Text]; found {
			r.wrong(v.At, twice, v.Text)
			continue
		}
		seen[v.Text] = struct{}{}
		one := api.Var{Name: v.Text}
		if v.N == 1 {
			one.Bound = []api.Type{r.whole(v.Parts[0], v.At)}
		}
		out = append(out, one)
	}
	return out
}

func (r *resolver) signature(n api.Node) api.Type {
	count := 0
	for n.Parts[count].Kind == api.DVar {
		count++
	}
	out := api.Type{Kind: api.KFunc, Vars: r.variables(n.Parts[:count])}
	rest := n.Parts[count:]
	for _, p := range rest[:n.N] {
		out.Parts = append(out.Parts, r.whole(p.Parts[0], p.Parts[0].At))
	}
	result := rest[n.N]
	out.Parts = append(out.Parts, r.whole(result, result.At))
	return r.limited(out, n.At)
}
