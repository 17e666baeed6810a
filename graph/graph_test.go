package graph_test

import (
	"math/rand"
	"strconv"
	"strings"
	"testing"

	"plinth/api"
	"plinth/graph"
)

func rule(name string, kind int, text string, refs ...string) graph.Rule {
	return graph.Rule{Name: name, Kind: kind, Refs: refs, Text: text}
}

func build(t *testing.T, rules ...graph.Rule) *graph.Graph {
	t.Helper()
	g, e := graph.New(rules...)
	if g == nil || e != api.OK {
		t.Fatal(e)
	}
	return g
}

func ask(t *testing.T, g *graph.Graph, name, want string, wantE api.Errno, runs int) {
	t.Helper()
	if s, e := g.Ask(name); s != want || e != wantE || g.Runs() != runs {
		t.Errorf("%s: %.20q %d, %d runs; not %.20q %d, %d runs", name, s, e, g.Runs(), want, wantE, runs)
	}
}

// P11.1
func TestNew(t *testing.T) {
	for _, x := range []struct {
		l []graph.Rule
		e api.Errno
	}{
		{nil, api.OK},
		{[]graph.Rule{rule("a", 1, ""), rule("b", 2, "", "a", "b", "c"), rule("c", 3, "", "a"), rule("d", 4, "", "a", "b")}, api.OK},
		{[]graph.Rule{rule("", 2, "", "", "", "", "x")}, api.OK},
		{[]graph.Rule{rule("a", 0, "")}, api.ErrForm},
		{[]graph.Rule{rule("a", 5, "", "a", "b", "c")}, api.ErrForm},
		{[]graph.Rule{rule("a", -1, "")}, api.ErrForm},
		{[]graph.Rule{rule("a", 2, "", "a", "b")}, api.ErrForm},
		{[]graph.Rule{rule("a", 3, "")}, api.ErrForm},
		{[]graph.Rule{rule("a", 4, "", "a")}, api.ErrForm},
		{[]graph.Rule{rule("a", 1, ""), rule("a", 1, "")}, api.ErrTwice},
		{[]graph.Rule{rule("a", 1, ""), rule("a", 1, ""), rule("b", 3, "")}, api.ErrForm},
	} {
		if g, e := graph.New(x.l...); e != x.e || (g == nil) != (e != api.OK) {
			t.Error(x.l, e)
		}
	}
	var many []graph.Rule
	for i := range api.MaxParts {
		many = append(many, rule("r"+strconv.Itoa(i), 1, ""))
	}
	build(t, many...)
	if g, e := graph.New(append(many, rule("x", 1, ""))...); g != nil || e != api.ErrLarge {
		t.Error(e)
	}
	if g, e := graph.New(append(many, rule("r7", 1, ""))...); g != nil || e != api.ErrTwice {
		t.Error(e)
	}
	refs := []string{"x"}
	g := build(t, graph.Rule{Name: "a", Kind: 1, Refs: refs})
	refs[0] = "y"
	g.Set("x", "1")
	ask(t, g, "a", "1", api.OK, 1)
}

// P11.2
func TestSet(t *testing.T) {
	g := build(t, rule("a", 1, "!", "x"))
	full := strings.Repeat("x", api.MaxFile)
	for _, x := range []struct {
		name, text string
		e          api.Errno
	}{{"a", "1", api.ErrForm}, {"a", full + "x", api.ErrForm}, {"x", full + "x", api.ErrLong}, {"x", full, api.OK}, {"", "1", api.OK}, {"y", "", api.OK}} {
		if e := g.Set(x.name, x.text); e != x.e {
			t.Error(x.name, e)
		}
	}
	ask(t, g, "x", full, api.OK, 0)
	ask(t, g, "y", "", api.OK, 0)
	ask(t, g, "", "1", api.OK, 0)
	ask(t, g, "z", "", api.ErrNone, 0)
	ask(t, g, "a", "", api.ErrLong, 1)
	g.Set("x", full[1:])
	ask(t, g, "a", full[1:]+"!", api.OK, 2)
	if e := g.Set("x", full+"x"); e != api.ErrLong {
		t.Error(e)
	}
	ask(t, g, "a", full[1:]+"!", api.OK, 2)
}

// P11.3: the chapter's examples.
func TestExamples(t *testing.T) {
	g := build(t, rule("a", 1, "!", "x", "y"), rule("b", 3, "", "a"), rule("c", 2, "", "x", "y", "z"), rule("d", 1, "", "d"))
	g.Set("x", "1")
	g.Set("y", "2")
	ask(t, g, "b", "3", api.OK, 2)
	g.Set("x", "1")
	ask(t, g, "b", "3", api.OK, 2)
	g.Set("x", "5")
	ask(t, g, "b", "3", api.OK, 4)
	ask(t, g, "a", "52!", api.OK, 4)
	ask(t, g, "d", "", api.ErrCycle, 4)
	ask(t, g, "c", "2", api.OK, 5)
	g.Set("x", "")
	ask(t, g, "c", "", api.ErrNone, 6)
	g.Set("z", "7")
	ask(t, g, "c", "7", api.OK, 7)
	g.Set("y", "8")
	ask(t, g, "c", "7", api.OK, 7)
	for name, want := range map[string]int{"a": 2, "b": 2, "c": 3, "d": 0, "x": 0, "nobody": 0} {
		if got := g.Ran(name); got != want {
			t.Error(name, got)
		}
	}
}

// P11.3: what each kind comes to.
func TestKinds(t *testing.T) {
	g := build(t, rule("join", 1, "z", "x", "y", "x"), rule("none", 1, "only"), rule("pick", 2, "t", "x", "y", "w"), rule("size", 3, "t", "x", "none"), rule("same", 4, "yes", "x", "y"),
		rule("wrong", 1, "", "x", "w", "y"), rule("wrong2", 4, "", "w", "x"), rule("wrong3", 4, "", "x", "w"), rule("wrong4", 3, "", "w"), rule("wrong5", 2, "", "w", "x", "x"))
	g.Set("x", "aé")
	g.Set("y", "b")
	ask(t, g, "join", "aébaéz", api.OK, 1)
	ask(t, g, "none", "only", api.OK, 2)
	ask(t, g, "pick", "b", api.OK, 3)
	ask(t, g, "size", "3", api.OK, 4)
	ask(t, g, "same", "", api.OK, 5)
	g.Set("y", "aé")
	ask(t, g, "same", "yes", api.OK, 6)
	for i, name := range []string{"wrong", "wrong2", "wrong3", "wrong4", "wrong5"} {
		ask(t, g, name, "", api.ErrNone, 7+i)
		ask(t, g, name, "", api.ErrNone, 7+i)
	}
	g.Set("x", "")
	ask(t, g, "pick", "", api.ErrNone, 12)
	ask(t, g, "size", "0", api.OK, 13)
	full := strings.Repeat("x", api.MaxFile)
	g = build(t, rule("a", 1, "", "x", "y"), rule("b", 1, "", "x", "x", "q"))
	g.Set("x", full)
	g.Set("y", "")
	ask(t, g, "a", full, api.OK, 1)
	ask(t, g, "b", "", api.ErrNone, 2)
	g.Set("y", "1")
	ask(t, g, "a", "", api.ErrLong, 3)
}

// P11.3: cycles leave nothing kept, and are no runs.
func TestCycles(t *testing.T) {
	g := build(t, rule("a", 1, "", "x", "b"), rule("b", 1, "", "a"), rule("c", 2, "", "y", "d", "x"), rule("d", 1, "", "c"), rule("e", 3, "", "d"))
	ask(t, g, "a", "", api.ErrNone, 1)
	ask(t, g, "b", "", api.ErrNone, 2)
	g.Set("x", "1")
	ask(t, g, "b", "", api.ErrCycle, 2)
	ask(t, g, "a", "", api.ErrCycle, 2)
	g.Set("y", "")
	ask(t, g, "e", "1", api.OK, 5)
	g.Set("y", "1")
	ask(t, g, "e", "", api.ErrCycle, 5)
	ask(t, g, "c", "", api.ErrCycle, 5)
	g.Set("y", "")
	ask(t, g, "e", "1", api.OK, 8)
	if g.Ran("a") != 1 || g.Ran("b") != 1 || g.Ran("c") != 2 || g.Ran("d") != 2 || g.Ran("e") != 2 {
		t.Error("rans")
	}
}

// P11.5
func TestNilAndZero(t *testing.T) {
	var none *graph.Graph
	ask(t, none, "a", "", api.ErrNone, 0)
	if e := none.Set("a", strings.Repeat("x", api.MaxFile+1)); e != api.ErrNone || none.Ran("a") != 0 {
		t.Error(e)
	}
	var zero graph.Graph
	ask(t, &zero, "a", "", api.ErrNone, 0)
	if e := zero.Set("a", "1"); e != api.OK || zero.Ran("a") != 0 {
		t.Error(e)
	}
	ask(t, &zero, "a", "1", api.OK, 0)
	other := build(t)
	ask(t, other, "a", "", api.ErrNone, 0)
}

// P11.4: many that share parts are still asked quickly, once each.
func TestShared(t *testing.T) {
	var l []graph.Rule
	for i := range 3000 {
		below := "r" + strconv.Itoa(i-1)
		if i == 0 {
			below = "x"
		}
		l = append(l, rule("r"+strconv.Itoa(i), 4, "a", below, below))
	}
	g := build(t, l...)
	g.Set("x", "1")
	ask(t, g, "r2999", "a", api.OK, 3000)
	g.Set("y", "1")
	ask(t, g, "r2999", "a", api.OK, 3000)
	g.Set("x", "2")
	ask(t, g, "r2999", "a", api.OK, 3001)
}

// told is what the words of the chapter say, done as plainly as they stand.
type told struct {
	rules  map[string]graph.Rule
	inputs map[string]string
	kept   map[string][]step
	came   map[string]step
	busy   map[string]bool
	ran    map[string]int
}

type step struct {
	name, text string
	e          api.Errno
}

func (m *told) ask(name string) step {
	r, found := m.rules[name]
	if !found {
		if s, set := m.inputs[name]; set {
			return step{name, s, api.OK}
		}
		return step{name, "", api.ErrNone}
	}
	if m.busy[name] {
		return step{name, "", api.ErrCycle}
	}
	m.busy[name] = true
	defer delete(m.busy, name)
	if kept, found := m.kept[name]; found {
		holds := true
		for _, k := range kept {
			if m.ask(k.name) != k {
				holds = false
				break
			}
		}
		if holds {
			return m.came[name]
		}
	}
	var asked []step
	ask := func(i int) step {
		s := m.ask(r.Refs[i])
		asked = append(asked, s)
		return s
	}
	out := m.come(r, ask)
	out.name = name
	delete(m.kept, name)
	if out.e != api.ErrCycle {
		m.kept[name], m.came[name] = append([]step{}, asked...), out
		m.ran[name]++
	}
	return out
}

func (m *told) come(r graph.Rule, ask func(int) step) step {
	if r.Kind == 1 {
		s := ""
		for i := range r.Refs {
			x := ask(i)
			if x.e != api.OK {
				return x
			}
			s += x.text
		}
		return step{text: s + r.Text}
	}
	a := ask(0)
	if a.e != api.OK {
		return a
	}
	if r.Kind == 3 {
		return step{text: strconv.Itoa(len(a.text))}
	}
	if r.Kind == 2 {
		if a.text == "" {
			return ask(2)
		}
		return ask(1)
	}
	b := ask(1)
	if b.e != api.OK {
		return b
	}
	if a.text == b.text {
		return step{text: r.Text}
	}
	return step{}
}

// P11.3, P11.4: graphs by chance, against the words, and against new graphs.
func TestByChance(t *testing.T) {
	r := rand.New(rand.NewSource(11))
	for range 400 {
		names := []string{"a", "b", "c", "d", "e", "f", "x", "y", "z"}
		m := &told{map[string]graph.Rule{}, map[string]string{}, map[string][]step{}, map[string]step{}, map[string]bool{}, map[string]int{}}
		var l []graph.Rule
		for _, name := range names[:6] {
			one := rule(name, 1+r.Intn(4), []string{"", "t"}[r.Intn(2)])
			for range 3 {
				one.Refs = append(one.Refs, names[r.Intn(len(names))])
			}
			l = append(l, one)
			m.rules[name] = one
		}
		g := build(t, l...)
		for range 30 {
			if r.Intn(2) == 0 {
				name, s := names[6+r.Intn(3)], []string{"", "1", "22"}[r.Intn(3)]
				g.Set(name, s)
				m.inputs[name] = s
				continue
			}
			name := names[r.Intn(len(names))]
			s, e := g.Ask(name)
			want := m.ask(name)
			fresh := build(t, l...)
			for k, v := range m.inputs {
				fresh.Set(k, v)
			}
			s2, e2 := fresh.Ask(name)
			if s != want.text || e != want.e || s2 != s || e2 != e {
				t.Fatal(l, name, s, e, want, s2, e2)
			}
			sum := 0
			for _, x := range names {
				sum += m.ran[x]
				if g.Ran(x) != m.ran[x] {
					t.Fatal(l, x, g.Ran(x), m.ran[x])
				}
			}
			if g.Runs() != sum {
				t.Fatal(g.Runs(), sum)
			}
		}
	}
}
