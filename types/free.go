package types

import (
	"maps"
	"slices"

	"plinth/api"
	"plinth/terms"
)

// Free tells the free variables of t.
func Free(t api.Type) []string {
	s := &search{bound: map[string]int{}, free: map[string]struct{}{}}
	s.walk(&t)
	return slices.Sorted(maps.Keys(s.free))
}

// search looks for free variables; bound counts how often a name is bound around the place that it is at.
type search struct {
	bound map[string]int
	free  map[string]struct{}
}

// within walks parts in which names are bound.
func (s *search) within(names []string, parts []api.Type) {
	for _, name := range names {
		s.bound[name]++
	}
	for i := range parts {
		s.walk(&parts[i])
	}
	for _, name := range names {
		s.bound[name]--
	}
}

func (s *search) walk(t *api.Type) {
	switch t.Kind {
	case api.KVar:
		if s.bound[t.Text] == 0 {
			s.free[t.Text] = struct{}{}
		}
	case api.KMapped:
		s.cut(t, 1)
		return
	case api.KCond:
		s.cond(t)
		return
	}
	var names []string
	if t.Kind == api.KFunc {
		for _, v := range t.Vars {
			names = append(names, v.Name)
		}
	}
	s.within(names, t.Parts)
	for i := range t.Vars {
		s.within(names, t.Vars[i].Bound)
	}
	for i := range t.Fields {
		s.walk(&t.Fields[i].Type)
	}
}

// cut walks the parts of t, its name being bound from the part number from on.
func (s *search) cut(t *api.Type, from int) {
	from = min(from, len(t.Parts))
	s.within(nil, t.Parts[:from])
	s.within([]string{t.Text}, t.Parts[from:])
}

func (s *search) cond(t *api.Type) {
	if len(t.Parts) != 4 {
		s.cut(t, 1)
		return
	}
	s.walk(&t.Parts[0])
	if t.N == 1 {
		s.bound[t.Text]++
		defer func() { s.bound[t.Text]-- }()
	}
	s.walk(&t.Parts[1])
	s.within(terms.Infers(t.Parts[1]), t.Parts[2:3])
	s.walk(&t.Parts[3])
}
