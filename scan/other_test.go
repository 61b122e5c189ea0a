package scan_test

import (
	"slices"
	"strconv"
	"testing"

	"magpie/api"
	"magpie/scan"
)

// handed is what is handed in: an entry and a mark (a question has no lists), and the whole of their labels' lists, with the room behind, in which something stands that isn't theirs.
type handed struct {
	e      api.Entry
	after  api.Mark
	labels []api.Label
	marked []api.Label
}

// spare is such a one, in memory of its own.
func spare() handed {
	h := handed{
		labels: []api.Label{{Name: "app", Value: "x"}, {Name: "env", Value: "y"}, {Name: "far", Value: "off"}},
		marked: []api.Label{{Name: "app", Value: "x"}, {Name: "far", Value: "off"}},
	}
	h.e = api.Entry{At: 5, Labels: h.labels[:2], Line: "b"}
	h.after = api.Mark{Has: true, Entry: api.Entry{At: 5, Labels: h.marked[:1], Line: "a"}}
	return h
}

// equal: whether two are the same in all, room too.
func equal(a, b handed) bool {
	return same(a.e, b.e) && a.after.Has == b.after.Has && same(a.after.Entry, b.after.Entry) && slices.Equal(a.labels, b.labels) && slices.Equal(a.marked, b.marked)
}

// ruin writes into all lists that are handed in, room too.
func (h handed) ruin() {
	for i := range h.labels {
		h.labels[i] = api.Label{Name: "zz", Value: "spoilt"}
	}
	for i := range h.marked {
		h.marked[i] = api.Label{Name: "zz", Value: "spoilt"}
	}
}

// oneToNine is the question that the tests below ask.
var oneToNine = times(1, 9)

// calls are all calls, of what is handed in.
func calls() map[string]func(g *scan.Engine, h handed) {
	return map[string]func(g *scan.Engine, h handed){
		"Add":           func(g *scan.Engine, h handed) { g.Add(h.e) },
		"Add twice":     func(g *scan.Engine, h handed) { g.Add(h.e); g.Add(h.e) },
		"Ask":           func(g *scan.Engine, h handed) { g.Ask(oneToNine, h.after, false, 2) },
		"Ask for one":   func(g *scan.Engine, h handed) { g.Ask(oneToNine, h.after, true, 1) },
		"Ask for none":  func(g *scan.Engine, h handed) { g.Ask(oneToNine, h.after, true, 0) },
		"Ask for all":   func(g *scan.Engine, h handed) { g.Ask(oneToNine, api.Mark{}, true, 99) },
		"Ask and write": func(g *scan.Engine, h handed) { spoil(told(g)) },
		"ErrArg":        func(g *scan.Engine, h handed) { g.Ask(times(0, 1<<41), h.after, true, 1) },
		"ErrKind":       func(g *scan.Engine, h handed) { g.Ask(&oneToNine, h.after, true, 1) },
		"ErrNil":        func(g *scan.Engine, h handed) { (*scan.Engine)(nil).Ask(oneToNine, h.after, true, 1) },
		"Add to nil":    func(g *scan.Engine, h handed) { (*scan.Engine)(nil).Add(h.e) },
	}
}

// told is what is answered to that question, from the first one on.
func told(g *scan.Engine) []api.Entry {
	list, _, _ := g.Ask(oneToNine, api.Mark{}, false, 99)
	return list
}

// spoil writes into a list, and into the labels that stand there, room too.
func spoil(list []api.Entry) {
	room := list[:cap(list)]
	for i := range room {
		labels := room[i].Labels[:cap(room[i].Labels)]
		for k := range labels {
			labels[k] = api.Label{Name: "zz", Value: "spoilt"}
		}
		room[i] = entry(5, "spoilt", "app", "x")
	}
}

// known is an engine of which the question tells all but one entry, in whose order h's own comes last but one.
func known() *scan.Engine {
	return engine(entry(9, "c", "app", "x"), entry(5, "a", "app", "x", "env", "y"), entry(5, "a", "app", "x"), entry(2, "b", "app", "x", "env", "y"), entry(12, "none", "app", "z"))
}

// knows are what is told of known, when h's own was added.
func knows() []api.Entry {
	return []api.Entry{entry(2, "b", "app", "x", "env", "y"), entry(5, "a", "app", "x"), entry(5, "a", "app", "x", "env", "y"), entry(5, "b", "app", "x", "env", "y"), entry(9, "c", "app", "x")}
}

// What is handed in stays as it is, room too; each call is looked at alone, so that none sets right what another one did.
func TestP15_1_HandedInIsKept(t *testing.T) {
	for name, call := range calls() {
		for _, g := range []*scan.Engine{scan.New(), known(), engine(spare().e)} {
			h := spare()
			call(g, h)
			if !equal(h, spare()) {
				t.Errorf("behind %s: %v, not %v", name, h, spare())
			}
		}
	}
}

// An engine has entries as they were when they were added.
func TestP15_1_HandedInIsntKept(t *testing.T) {
	want := knows()
	for name, call := range calls() {
		g, h := known(), spare()
		g.Add(h.e)
		call(g, h)
		h.ruin()
		if got := told(g); !allSame(got, want) || g.Len() != len(want)+1 {
			t.Errorf("behind what was written behind %s: %s, not %s", name, text(got), text(want))
		}
		g.Add(spare().e)
		if g.Len() != len(want)+1 {
			t.Errorf("behind what was written behind %s an entry is added again", name)
		}
	}
}

// An entry's labels may be written anew for the next one.
func TestP15_1_LabelsOfTheNextOne(t *testing.T) {
	labels := []api.Label{{Name: "app"}}
	g := scan.New()
	var want []api.Entry
	for _, value := range []string{"a", "b", "c", "b", "a", "d"} {
		labels[0].Value = value
		g.Add(api.Entry{At: 1, Labels: labels, Line: "x"})
	}
	for _, value := range []string{"a", "b", "c", "d"} {
		want = append(want, entry(1, "x", "app", value))
	}
	has(t, g, want...)
}

// The lists of an answer are new memory, those of labels too: they share none with what was handed in, with an earlier answer, or with one another.
func TestP15_1_AnswersAreNewMemory(t *testing.T) {
	h := spare()
	seen := map[any]string{}
	look := func(why string, list []api.Entry, more ...[]api.Label) {
		t.Helper()
		var places []any
		room := list[:cap(list)]
		for i := range room {
			places = append(places, &room[i])
			more = append(more, room[i].Labels)
		}
		for _, labels := range more {
			labels = labels[:cap(labels)]
			for i := range labels {
				places = append(places, &labels[i])
			}
		}
		for _, place := range places {
			if seen[place] != "" {
				t.Errorf("%s: in memory of %s", why, seen[place])
			}
			seen[place] = why
		}
	}
	look("what was handed in", nil, h.labels, h.marked)
	for _, g := range []*scan.Engine{known(), engine(row(40)...), engine(rising...)} {
		g.Add(h.e)
		for n := range 50 {
			for _, desc := range []bool{false, true} {
				for _, after := range []api.Mark{{}, h.after, behind(h.e)} {
					list, _, _ := g.Ask(oneToNine, after, desc, n%7)
					look("an answer", list)
					list, _, _ = g.Ask(always(), after, desc, n)
					look("an answer of all", list)
				}
			}
		}
	}
}

// What is written into an answer isn't seen in a later one, in an earlier one, nor in what was handed in.
func TestP15_1_WhatIsWrittenIntoAnAnswerIsntSeen(t *testing.T) {
	h := spare()
	g := known()
	g.Add(h.e)
	first := told(g)
	want := knows()
	for n := range 7 {
		for _, desc := range []bool{false, true} {
			for _, ask := range []any{oneToNine, always(), times(5, 5)} {
				list, _, _ := g.Ask(ask, api.Mark{}, desc, n)
				spoil(list)
				_ = append(list, entry(5, "spoilt", "app", "x"))
			}
		}
	}
	if !equal(h, spare()) {
		t.Errorf("%v, not %v", h, spare())
	}
	if again := told(g); !allSame(first, want) || !allSame(again, want) {
		t.Errorf("%s, then %s, not %s", text(first), text(again), text(want))
	}
	has(t, g, append(want, entry(12, "none", "app", "z"))...)
}

// What is written into the answer of a whole row isn't seen in the row, nor in what is added behind it.
func TestP15_1_WhatIsWrittenIntoARowIsntSeen(t *testing.T) {
	for n := range 70 {
		list := row(n)
		g := engine(list...)
		for _, desc := range []bool{false, true} {
			all, _, _ := g.Ask(always(), api.Mark{}, desc, n)
			spoil(all)
			has(t, g, list...)
		}
		next := row(n + 1)
		g.Add(next[n])
		has(t, g, next...)
	}
}

// What is answered stays as it is, whatever is added and asked behind it.
func TestP15_1_AnswersStay(t *testing.T) {
	g := known()
	early := told(g)
	var want []api.Entry
	for _, e := range early {
		want = append(want, copied(e))
	}
	for _, e := range append(row(40), rising...) {
		g.Add(e)
		told(g)
	}
	if !allSame(early, want) {
		t.Errorf("%s, not %s", text(early), text(want))
	}
}

// Engines know nothing of one another.
func TestP15_1_EnginesKnowNothingOfOneAnother(t *testing.T) {
	one, two, none := scan.New(), scan.New(), scan.New()
	for i, e := range rising {
		if i%3 > 0 {
			one.Add(e)
		}
		if i%3 < 2 {
			two.Add(e)
		}
	}
	for _, q := range questions() {
		var first, second []int
		for _, i := range q.kept {
			if i%3 > 0 {
				first = append(first, i)
			}
			if i%3 < 2 {
				second = append(second, i)
			}
		}
		asks(t, one, q.ask, api.Mark{}, false, 50, at(first), true)
		asks(t, two, q.ask, api.Mark{}, false, 50, at(second), true)
		asks(t, none, q.ask, api.Mark{}, false, 50, nil, true)
	}
	if one.Len() != 10 || two.Len() != 10 || none.Len() != 0 {
		t.Errorf("%d, %d, %d", one.Len(), two.Len(), none.Len())
	}
}

// Of what is as great as may be, and of more, the calls end.
func TestP15_1_OfGreatOnesCallsEnd(t *testing.T) {
	const n = 5000
	g := scan.New()
	for range 2 {
		for i := range 100 {
			g.Add(entry(i, xs(200)))
		}
	}
	for i := range n {
		g.Add(entry(i*7919%n, xs(200), "a", xs(20), "b", strconv.Itoa(i%5), "c", "", xs(20), xs(20)))
	}
	if list, all, err := g.Ask(always(), api.Mark{}, true, n+100); len(list) != n+100 || !all || err != api.OK || g.Len() != n+100 {
		t.Errorf("%d entries, %v, error %d", len(list), all, err)
	}
	if list, all, err := g.Ask(times(100, n-1), api.Mark{}, false, n-101); len(list) != n-101 || all || err != api.OK {
		t.Errorf("%d entries, %v, error %d", len(list), all, err)
	}
	asks(t, g, times(n, api.MaxTime), api.Mark{}, true, 9, nil, true)
	fails(t, g, times(0, api.MaxTime+1), api.ErrArg)
}
