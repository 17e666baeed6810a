package types

import (
	"plinth/api"
	"plinth/terms"
)

// Nodes counts the nodes of t, but no further than MaxParts + 1.
func Nodes(t api.Type) int {
	left := api.MaxParts + 1
	count(&t, &left)
	return api.MaxParts + 1 - left
}

// count takes one from left for each node, while there is any.
func count(t *api.Type, left *int) {
	if *left == 0 {
		return
	}
	*left--
	for i := 0; i < len(t.Parts) && *left > 0; i++ {
		count(&t.Parts[i], left)
	}
	for i := 0; i < len(t.Fields) && *left > 0; i++ {
		count(&t.Fields[i].Type, left)
	}
	for i := 0; i < len(t.Vars) && *left > 0; i++ {
		for j := 0; j < len(t.Vars[i].Bound) && *left > 0; j++ {
			count(&t.Vars[i].Bound[j], left)
		}
	}
}

// Formed tells whether t is formed.
func Formed(t api.Type) bool {
	return Nodes(t) <= api.MaxParts && formed(&t)
}

// what a kind of type may have, beside what formed asks of its own
type shape struct {
	text, n, fields, vars bool
	least, most           int
}

const anyNumber = -1

func shapeOf(kind int) (shape, bool) {
	switch kind {
	case api.KNever, api.KUnknown, api.KAny, api.KNull, api.KTrue, api.KFalse, api.KNumber, api.KString:
		return shape{}, true
	case api.KNum:
		return shape{n: true}, true
	case api.KStr, api.KVar, api.KInfer:
		return shape{text: true}, true
	case api.KArray, api.KKeyof:
		return shape{least: 1, most: 1}, true
	case api.KTuple:
		return shape{most: anyNumber}, true
	case api.KFunc:
		return shape{vars: true, least: 1, most: anyNumber}, true
	case api.KObject:
		return shape{fields: true}, true
	case api.KUnion, api.KOver:
		return shape{least: 2, most: anyNumber}, true
	case api.KRef:
		return shape{text: true, most: anyNumber}, true
	case api.KIndex:
		return shape{least: 2, most: 2}, true
	case api.KMapped:
		return shape{text: true, n: true, least: 2, most: 2}, true
	case api.KCond:
		return shape{text: true, n: true, least: 4, most: 4}, true
	}
	return shape{}, false
}

func (s shape) fits(t *api.Type) bool {
	if !s.text && t.Text != "" || !s.n && t.N != 0 || !s.fields && len(t.Fields) > 0 || !s.vars && len(t.Vars) > 0 {
		return false
	}
	return len(t.Parts) >= s.least && (s.most == anyNumber || len(t.Parts) <= s.most)
}

func formed(t *api.Type) bool {
	s, known := shapeOf(t.Kind)
	if !known || !s.fits(t) || !formedSelf(t) {
		return false
	}
	for i := range t.Parts {
		if !formed(&t.Parts[i]) {
			return false
		}
	}
	return true
}

// formedSelf tells whether what t has beside its parts is right, and how its parts go together.
func formedSelf(t *api.Type) bool {
	switch t.Kind {
	case api.KNum:
		return t.N >= 0
	case api.KVar, api.KInfer, api.KRef:
		return terms.IsName(t.Text)
	case api.KFunc:
		return formedVars(t.Vars)
	case api.KObject:
		return formedFields(t.Fields)
	case api.KUnion:
		return isUnion(t.Parts)
	case api.KMapped:
		return terms.IsName(t.Text) && t.N >= 0 && t.N <= 3
	case api.KCond:
		return t.N == 0 && t.Text == "" || t.N == 1 && terms.IsName(t.Text)
	case api.KOver:
		for i := range t.Parts {
			if t.Parts[i].Kind != api.KFunc {
				return false
			}
		}
	}
	return true
}

func formedVars(l []api.Var) bool {
	seen := map[string]struct{}{}
	for _, v := range l {
		if _, twice := seen[v.Name]; twice || !terms.IsName(v.Name) || len(v.Bound) > 1 {
			return false
		}
		seen[v.Name] = struct{}{}
		if len(v.Bound) == 1 && !formed(&v.Bound[0]) {
			return false
		}
	}
	return true
}

func formedFields(l []api.Field) bool {
	for i := range l {
		f := &l[i]
		if !terms.IsName(f.Name) || f.Flags < 0 || f.Flags > 3 || i > 0 && l[i-1].Name >= f.Name || !formed(&f.Type) {
			return false
		}
	}
	return true
}

// isUnion tells whether the parts are those of their union.
func isUnion(l []api.Type) bool {
	var has kinds
	for i := range l {
		if l[i].Kind == api.KUnion || i > 0 && order(&l[i-1], &l[i]) >= 0 {
			return false
		}
		has.see(&l[i])
	}
	for i := range l {
		if !has.keep(&l[i]) {
			return false
		}
	}
	return true
}
