package tstmt

import (
	"plinth/api"
	"plinth/relate"
	"plinth/texpr"
)

// context is a Context whose names are quickly found, and quickly put ahead of others. It is handed on as a value.
type context struct {
	types   texpr.Scope
	world   relate.World
	outer   map[string]Value
	names   *link
	classes map[string]Class
	this    []api.Type
	result  []api.Type
}

// link is a name that stands ahead of others.
type link struct {
	value  Value
	behind *link
}

func inner(c Context) context {
	out := context{types: c.Types, world: c.World, this: c.This, result: c.Result, outer: map[string]Value{}, classes: map[string]Class{}}
	for _, v := range c.Values {
		if _, found := out.outer[v.Name]; !found {
			out.outer[v.Name] = v
		}
	}
	for _, class := range c.Classes {
		if _, found := out.classes[class.Name]; !found {
			out.classes[class.Name] = class
		}
	}
	return out
}

func (c context) find(name string) (Value, bool) {
	for l := c.names; l != nil; l = l.behind {
		if l.value.Name == name {
			return l.value, true
		}
	}
	v, found := c.outer[name]
	return v, found
}

// with tells the context with a name ahead of all others.
func (c context) with(name string, t api.Type, constant bool) context {
	c.names = &link{Value{Name: name, Type: t, Const: constant}, c.names}
	return c
}

// withVars tells the context with type variables ahead of all others.
func (c context) withVars(vars []api.Var) context {
	if len(vars) == 0 {
		return c
	}
	var names []string
	for _, v := range vars {
		names = append(names, v.Name)
	}
	c.types.Vars = append(names, c.types.Vars...)
	c.world.Vars = append(append([]api.Var(nil), vars...), c.world.Vars...)
	return c
}
