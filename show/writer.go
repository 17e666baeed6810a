package show

import (
	"strconv"
	"strings"

	"plinth/api"
	"plinth/scan"
)

// writer gathers a text, and how many brackets are open in it at most.
type writer struct {
	strings.Builder
	open, deepest int
}

// say writes words and signs, the brackets among them counted.
func (w *writer) say(words ...string) {
	for _, s := range words {
		for i := range len(s) {
			w.count(s[i])
		}
		w.WriteString(s)
	}
}

func (w *writer) count(c byte) {
	switch c {
	case '(', '[', '{':
		w.open++
		w.deepest = max(w.deepest, w.open)
	case ')', ']', '}':
		w.open--
	}
}

// quote writes a text as a string; what looks like a bracket in it is none.
func (w *writer) quote(s string) {
	w.WriteString(scan.Quote(s))
}

func (w *writer) number(n int64) {
	w.WriteString(strconv.FormatInt(n, 10))
}

// list writes parts with a word between.
func (w *writer) list(parts []api.Node, between string, part func(api.Node)) {
	for i, p := range parts {
		if i > 0 {
			w.say(between)
		}
		part(p)
	}
}

// listed writes parts with commas between, if there are any, with what stands ahead of and behind them.
func (w *writer) listed(ahead string, parts []api.Node, part func(api.Node), behind string) {
	if len(parts) == 0 {
		return
	}
	w.say(ahead)
	w.list(parts, ", ", part)
	w.say(behind)
}

// inBrackets writes a part, in brackets where it needs them.
func (w *writer) inBrackets(needed bool, n api.Node, part func(api.Node)) {
	if !needed {
		part(n)
		return
	}
	w.say("(")
	part(n)
	w.say(")")
}
