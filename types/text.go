package types

import (
	"strconv"
	"strings"

	"plinth/api"
	"plinth/scan"
)

// Text tells the text of t.
func Text(t api.Type) (string, api.Errno) {
	if !Formed(t) {
		return "", api.ErrForm
	}
	w := &writer{}
	w.typed(&t)
	return w.String(), api.OK
}

type writer struct {
	strings.Builder
}

func (w *writer) say(words ...string) {
	for _, s := range words {
		w.WriteString(s)
	}
}

// list writes types with a word between.
func (w *writer) list(l []api.Type, between string, one func(*api.Type)) {
	for i := range l {
		if i > 0 {
			w.say(between)
		}
		one(&l[i])
	}
}

// part writes a part, in brackets if it is of a kind that needs them.
func (w *writer) part(t *api.Type) {
	switch t.Kind {
	case api.KFunc, api.KUnion, api.KKeyof, api.KCond, api.KOver:
		w.say("(")
		w.typed(t)
		w.say(")")
	default:
		w.typed(t)
	}
}

// word tells the text of a type that has nothing but its kind.
func word(kind int) string {
	switch kind {
	case api.KNever:
		return "never"
	case api.KUnknown:
		return "unknown"
	case api.KAny:
		return "any"
	case api.KNull:
		return "null"
	case api.KTrue:
		return "true"
	case api.KFalse:
		return "false"
	case api.KNumber:
		return "number"
	case api.KString:
		return "string"
	}
	return ""
}

func (w *writer) typed(t *api.Type) {
	switch t.Kind {
	case api.KNum:
		w.say(strconv.FormatInt(t.N, 10))
	case api.KStr:
		w.say(scan.Quote(t.Text))
	case api.KArray:
		w.part(&t.Parts[0])
		w.say("[]")
	case api.KTuple:
		w.say("[")
		w.list(t.Parts, ", ", w.typed)
		w.say("]")
	case api.KFunc:
		w.function(t)
	case api.KObject:
		w.fields(t.Fields)
	case api.KUnion:
		w.list(t.Parts, " | ", w.part)
	case api.KOver:
		w.list(t.Parts, " & ", w.part)
	case api.KVar:
		w.say(t.Text)
	case api.KRef:
		w.say(t.Text)
		if len(t.Parts) > 0 {
			w.say("<")
			w.list(t.Parts, ", ", w.typed)
			w.say(">")
		}
	case api.KKeyof:
		w.say("keyof ")
		w.part(&t.Parts[0])
	case api.KIndex:
		w.part(&t.Parts[0])
		w.say("[")
		w.typed(&t.Parts[1])
		w.say("]")
	case api.KMapped:
		w.mapped(t)
	case api.KCond:
		w.cond(t)
	case api.KInfer:
		w.say("infer ", t.Text)
	default:
		w.say(word(t.Kind))
	}
}

func (w *writer) function(t *api.Type) {
	if len(t.Vars) > 0 {
		w.say("<")
		for i, v := range t.Vars {
			if i > 0 {
				w.say(", ")
			}
			w.say(v.Name)
			if len(v.Bound) > 0 {
				w.say(" extends ")
				w.typed(&v.Bound[0])
			}
		}
		w.say(">")
	}
	last := len(t.Parts) - 1
	w.say("(")
	w.list(t.Parts[:last], ", ", w.typed)
	w.say(") => ")
	w.typed(&t.Parts[last])
}

// mut and mark tell what stands ahead of and behind a field's name.
func mut(flags int) string {
	if flags&2 != 0 {
		return "mut "
	}
	return ""
}

func mark(flags int) string {
	if flags&1 != 0 {
		return "?"
	}
	return ""
}

func (w *writer) fields(l []api.Field) {
	w.say("{ ")
	for i := range l {
		f := &l[i]
		w.say(mut(f.Flags), f.Name, mark(f.Flags), ": ")
		w.typed(&f.Type)
		w.say("; ")
	}
	w.say("}")
}

func (w *writer) mapped(t *api.Type) {
	flags := int(t.N)
	w.say("{ ", mut(flags), "[", t.Text, " in ")
	w.typed(&t.Parts[0])
	w.say("]", mark(flags), ": ")
	w.typed(&t.Parts[1])
	w.say(" }")
}

func (w *writer) cond(t *api.Type) {
	if t.N == 1 {
		w.say(t.Text, " = ")
	}
	w.part(&t.Parts[0])
	w.say(" extends ")
	w.part(&t.Parts[1])
	w.say(" ? ")
	w.typed(&t.Parts[2])
	w.say(" : ")
	w.typed(&t.Parts[3])
}
