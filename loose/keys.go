// Package loose has what eval and cond do with types, without asking whether the types are formed: what comes about
// within relate and infer may have more nodes than a formed type, and is still asked for its keys, its parts and what it gathers.
package loose

import (
	"plinth/api"
	"plinth/types"
)

// Parts tells the parts of a union; of KNever none, of all else itself.
func Parts(t api.Type) []api.Type {
	switch t.Kind {
	case api.KUnion:
		return append([]api.Type(nil), t.Parts...)
	case api.KNever:
		return nil
	}
	return []api.Type{t}
}

// Keys tells the keys of a type.
func Keys(t api.Type) api.Type {
	k := keysOf(t)
	if k.all {
		return api.Type{Kind: api.KString}
	}
	var l []api.Type
	for _, name := range k.names {
		l = append(l, api.Type{Kind: api.KStr, Text: name})
	}
	return types.Union(l...)
}

// keySet has names, or all that there may be.
type keySet struct {
	all   bool
	names []string
}

func keysOf(t api.Type) keySet {
	switch t.Kind {
	case api.KAny, api.KNever:
		return keySet{all: true}
	case api.KObject:
		var k keySet
		for _, f := range t.Fields {
			k.names = append(k.names, f.Name)
		}
		return k
	case api.KUnion:
		k := keySet{all: true}
		for _, p := range t.Parts {
			k = common(k, keysOf(p))
		}
		return k
	}
	return keySet{}
}

// common tells the keys that both have.
func common(a, b keySet) keySet {
	if a.all {
		return b
	}
	if b.all {
		return a
	}
	has := map[string]struct{}{}
	for _, name := range b.names {
		has[name] = struct{}{}
	}
	var k keySet
	for _, name := range a.names {
		if _, found := has[name]; found {
			k.names = append(k.names, name)
		}
	}
	return k
}

// At tells what stands at the key k in t.
func At(t, k api.Type) api.Type {
	switch {
	case k.Kind == api.KNever:
		return k
	case t.Kind == api.KAny, t.Kind == api.KNever:
		return t
	case k.Kind == api.KUnion:
		return each(k.Parts, func(p api.Type) api.Type { return At(t, p) })
	case t.Kind == api.KUnion:
		return each(t.Parts, func(p api.Type) api.Type { return At(p, k) })
	case t.Kind == api.KObject && k.Kind == api.KStr:
		return atField(t, k.Text)
	case t.Kind == api.KArray && (k.Kind == api.KNumber || k.Kind == api.KNum):
		return orNull(t.Parts...)
	case t.Kind == api.KTuple && k.Kind == api.KNum:
		if k.N < 0 || k.N >= int64(len(t.Parts)) {
			return api.Type{Kind: api.KNull}
		}
		return t.Parts[k.N]
	case t.Kind == api.KTuple && k.Kind == api.KNumber:
		return orNull(t.Parts...)
	}
	return api.Type{Kind: api.KUnknown}
}

func each(l []api.Type, one func(api.Type) api.Type) api.Type {
	out := make([]api.Type, len(l))
	for i, t := range l {
		out[i] = one(t)
	}
	return types.Union(out...)
}

func orNull(l ...api.Type) api.Type {
	return types.Union(append([]api.Type{{Kind: api.KNull}}, l...)...)
}

// Held tells what a field holds: its type, or that and null, if it may lack.
func Held(f api.Field) api.Type {
	if f.Flags&1 != 0 {
		return orNull(f.Type)
	}
	return f.Type
}

// FieldOf finds a field of an object by its name.
func FieldOf(t api.Type, name string) (api.Field, bool) {
	for i := range t.Fields {
		if t.Fields[i].Name == name {
			return t.Fields[i], true
		}
	}
	return api.Field{}, false
}

func atField(t api.Type, name string) api.Type {
	f, found := FieldOf(t, name)
	if !found {
		return api.Type{Kind: api.KUnknown}
	}
	return Held(f)
}
