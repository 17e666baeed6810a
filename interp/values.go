package interp

import (
	"maps"
	"slices"

	"plinth/api"
)

// value is null, true, false, a number, a text, or a thing. Two values are the same just if they are equal so.
type value struct {
	kind  int
	n     int64
	text  string
	thing *thing
}

// thing is an array, an object or a function: what has an identity of its own.
type thing struct {
	parts  []value
	fields map[string]value
	code   *code
}

// code is what a function does: its parameters, its block, the names, this and the file that are there.
type code struct {
	params []api.Node
	block  api.Node
	frame  frame
}

// frame is what is there at a place in a program.
type frame struct {
	file  int
	names *name
	this  *thing
}

// name is a name that holds a value, ahead of others.
type name struct {
	text   string
	holds  value
	behind *name
}

// with tells the frame with a new name ahead.
func (f frame) with(text string, v value) frame {
	f.names = &name{text, v, f.names}
	return f
}

// find finds the nearest name.
func (f frame) find(text string) *name {
	for n := f.names; n != nil; n = n.behind {
		if n.text == text {
			return n
		}
	}
	return nil
}

func null() value {
	return value{kind: api.KNull}
}

func truth(is bool) value {
	if is {
		return value{kind: api.KTrue}
	}
	return value{kind: api.KFalse}
}

func number(n int64) value {
	return value{kind: api.KNumber, n: n}
}

func text(s string) value {
	return value{kind: api.KString, text: s}
}

func object(t *thing) value {
	return value{kind: api.KObject, thing: t}
}

func isTruth(v value) bool {
	return v.kind == api.KTrue || v.kind == api.KFalse
}

// at tells what stands at a name of an object; null, if nothing does.
func (t *thing) at(name string) value {
	if v, found := t.fields[name]; found {
		return v
	}
	return null()
}

// kindWord tells the word for the kind of a value.
func kindWord(v value) string {
	switch v.kind {
	case api.KNull:
		return "null"
	case api.KTrue, api.KFalse:
		return "boolean"
	case api.KNumber:
		return "number"
	case api.KString:
		return "string"
	case api.KArray:
		return "array"
	case api.KObject:
		return "object"
	}
	return "function"
}

// The limits of what is told of a value.
const (
	mostAround = 6
	mostValues = 200
)

func told(v value) Value {
	count := 0
	return tell(v, 0, &count)
}

// tell tells a value that stands within so many arrays and objects.
func tell(v value, around int, count *int) Value {
	holds := v.kind == api.KArray || v.kind == api.KObject
	if holds && around >= mostAround {
		return Value{}
	}
	*count++
	if *count > mostValues {
		return Value{}
	}
	out := Value{Kind: v.kind, N: v.n, Text: v.text}
	if v.kind == api.KArray {
		for _, p := range v.thing.parts {
			out.Parts = append(out.Parts, tell(p, around+1, count))
		}
	}
	if v.kind == api.KObject {
		out.Names = slices.Sorted(maps.Keys(v.thing.fields))
		for _, name := range out.Names {
			out.Parts = append(out.Parts, tell(v.thing.fields[name], around+1, count))
		}
	}
	return out
}
