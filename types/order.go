// Package types is layer 9: types as values, their order, their normal form, their texts.
package types

import (
	"cmp"
	"slices"

	"plinth/api"
	"plinth/terms"
)

// Order tells which of two types comes first.
func Order(a, b api.Type) int {
	return order(&a, &b)
}

func order(a, b *api.Type) int {
	c := cmp.Or(cmp.Compare(a.Kind, b.Kind), cmp.Compare(a.Text, b.Text), cmp.Compare(a.N, b.N))
	if c != 0 {
		return c
	}
	if c := orderAll(a.Parts, b.Parts, order); c != 0 {
		return c
	}
	if c := orderAll(a.Fields, b.Fields, orderFields); c != 0 {
		return c
	}
	return orderAll(a.Vars, b.Vars, orderVars)
}

// orderAll tells the order of two lists: the shorter one first, then by their items.
func orderAll[T any](a, b []T, one func(a, b *T) int) int {
	if c := cmp.Compare(len(a), len(b)); c != 0 {
		return c
	}
	for i := range a {
		if c := one(&a[i], &b[i]); c != 0 {
			return c
		}
	}
	return 0
}

func orderFields(a, b *api.Field) int {
	if c := cmp.Or(cmp.Compare(a.Name, b.Name), cmp.Compare(a.Flags, b.Flags)); c != 0 {
		return c
	}
	return order(&a.Type, &b.Type)
}

func orderVars(a, b *api.Var) int {
	if c := cmp.Compare(a.Name, b.Name); c != 0 {
		return c
	}
	return orderAll(a.Bound, b.Bound, order)
}

// Union puts types together.
func Union(l ...api.Type) api.Type {
	var has kinds
	flat := flatten(nil, l, &has)
	kept := flat[:0]
	for _, t := range flat {
		if has.keep(&t) {
			kept = append(kept, t)
		}
	}
	slices.SortFunc(kept, Order)
	kept = slices.CompactFunc(kept, func(a, b api.Type) bool { return order(&a, &b) == 0 })
	switch len(kept) {
	case 0:
		return api.Type{Kind: api.KNever}
	case 1:
		return kept[0]
	}
	return api.Type{Kind: api.KUnion, Parts: slices.Clip(kept)}
}

// kinds tells which of the kinds that swallow others are among some types.
type kinds struct {
	any, unknown, number, text bool
}

func (k *kinds) see(t *api.Type) {
	switch t.Kind {
	case api.KAny:
		k.any = true
	case api.KUnknown:
		k.unknown = true
	case api.KNumber:
		k.number = true
	case api.KString:
		k.text = true
	}
}

// keep tells whether t stands in a union beside those that were seen.
func (k *kinds) keep(t *api.Type) bool {
	switch {
	case t.Kind == api.KNever:
		return false
	case t.Kind == api.KAny:
		return true
	case t.Kind == api.KUnknown && !k.any:
		return true
	case k.any || k.unknown:
		return terms.HasInfer(t)
	case t.Kind == api.KNum:
		return !k.number
	case t.Kind == api.KStr:
		return !k.text
	}
	return true
}

// flatten tells the types of l, the parts of unions in the place of these.
func flatten(out, l []api.Type, has *kinds) []api.Type {
	for i := range l {
		if l[i].Kind == api.KUnion {
			out = flatten(out, l[i].Parts, has)
			continue
		}
		has.see(&l[i])
		out = append(out, l[i])
	}
	return out
}
