package relate

import (
	"plinth/api"
	"plinth/types"
)

// run is what is asked in one call: its steps, and what is being asked just now.
type run struct {
	fuel, steps int
	decls       map[string]*Decl
	vars        map[string]*api.Var
	asked       []asking
	rows        int
}

// asking is a question whether s fits t, one of them a KRef, that is being asked: how many nodes they have (so that types
// that grow are quickly told from one another), and how many rows had been gone into ahead of it.
type asking struct {
	s, t  api.Type
	nodes [2]int
	rows  int
}

// stop is what a run is given up with.
type stop struct {
	e api.Errno
}

// ran does something in a new run, and tells its steps.
func ran[T any](w World, do func(*run) T) (out T, steps int, e api.Errno) {
	r := newRun(w)
	defer func() {
		told, stopped := recover().(stop)
		if !stopped {
			return
		}
		var none T
		out, steps, e = none, 0, told.e
		if e == api.ErrFuel {
			steps = w.Fuel
		}
	}()
	out = do(r)
	return out, r.steps, api.OK
}

func newRun(w World) *run {
	r := &run{fuel: w.Fuel, decls: map[string]*Decl{}, vars: map[string]*api.Var{}}
	for i := range w.Decls {
		if d := &w.Decls[i]; r.decls[d.Name] == nil {
			r.decls[d.Name] = d
		}
	}
	for i := range w.Vars {
		if v := &w.Vars[i]; r.vars[v.Name] == nil {
			r.vars[v.Name] = v
		}
	}
	return r
}

// begin takes a step.
func (r *run) begin() {
	if r.steps == r.fuel {
		panic(stop{api.ErrFuel})
	}
	r.steps++
}

// need goes on with what a layer below answers, if it is no error.
func need(t api.Type, e api.Errno) api.Type {
	if e != api.OK {
		panic(stop{e})
	}
	return t
}

// open tells whether what t comes to hangs on what isn't known.
func open(t *api.Type) bool {
	switch t.Kind {
	case api.KVar, api.KKeyof, api.KIndex, api.KMapped, api.KCond, api.KInfer:
		return true
	case api.KUnion:
		for i := range t.Parts {
			if open(&t.Parts[i]) {
				return true
			}
		}
	}
	return false
}

func same(a, b api.Type) bool {
	return types.Order(a, b) == 0
}
