package index_test

import (
	"slices"
	"strings"
	"testing"

	"magpie/api"
	"magpie/index"
)

// handed is what is handed in: an entry, a question and a mark, and the whole of their lists, with the room behind, in which something stands that isn't theirs.
type handed struct {
	e      api.Entry
	ask    api.TokenAsk
	after  api.Mark
	labels []api.Label
	marked []api.Label
	rows   [][]string
	words  []string
}

// spare is such a one, in memory of its own; its rows, and the words of one, are in no order.
func spare() handed {
	h := handed{
		labels: []api.Label{{Name: "app", Value: "x"}, {Name: "env", Value: "y"}, {Name: "far", Value: "off"}},
		marked: []api.Label{{Name: "app", Value: "x"}, {Name: "far", Value: "off"}},
		words:  []string{"b", "a", "c", "far off"},
	}
	h.rows = [][]string{h.words[2:3], h.words[:2], {"far off"}}
	h.e = api.Entry{At: 5, Labels: h.labels[:2], Line: "c a"}
	h.ask = api.TokenAsk{From: 1, To: 9, All: h.rows[:2]}
	h.after = api.Mark{Has: true, Entry: api.Entry{At: 5, Labels: h.marked[:1], Line: "a"}}
	return h
}

// equal: whether two are the same in all, room too.
func equal(a, b handed) bool {
	return same(a.e, b.e) && a.ask.From == b.ask.From && a.ask.To == b.ask.To && slices.EqualFunc(a.ask.All, b.ask.All, slices.Equal) && a.after.Has == b.after.Has && same(a.after.Entry, b.after.Entry) &&
		slices.Equal(a.labels, b.labels) && slices.Equal(a.marked, b.marked) && slices.EqualFunc(a.rows, b.rows, slices.Equal) && slices.Equal(a.words, b.words)
}

// ruin writes into all lists that are handed in, room too.
func (h handed) ruin() {
	for i := range h.labels {
		h.labels[i] = api.Label{Name: "zz", Value: "spoilt"}
	}
	for i := range h.marked {
		h.marked[i] = api.Label{Name: "zz", Value: "spoilt"}
	}
	for i := range h.words {
		h.words[i] = "spoilt"
	}
	for i := range h.rows {
		h.rows[i] = nil
	}
}

// calls are all calls, of what is handed in.
func calls() map[string]func(g *index.Engine, h handed) {
	return map[string]func(g *index.Engine, h handed){
		"Add":           func(g *index.Engine, h handed) { g.Add(h.e) },
		"Add twice":     func(g *index.Engine, h handed) { g.Add(h.e); g.Add(h.e) },
		"Ask":           func(g *index.Engine, h handed) { g.Ask(h.ask, h.after, false, 2) },
		"Ask for one":   func(g *index.Engine, h handed) { g.Ask(h.ask, h.after, true, 1) },
		"Ask for none":  func(g *index.Engine, h handed) { g.Ask(h.ask, h.after, true, 0) },
		"Ask for all":   func(g *index.Engine, h handed) { g.Ask(h.ask, api.Mark{}, true, 99) },
		"Ask and write": func(g *index.Engine, h handed) { spoil(told(g, h)) },
		"ErrArg":        func(g *index.Engine, h handed) { h.ask.To = 1 << 41; g.Ask(h.ask, h.after, true, 1) },
		"ErrKind":       func(g *index.Engine, h handed) { g.Ask(&h.ask, h.after, true, 1) },
		"ErrNil":        func(g *index.Engine, h handed) { (*index.Engine)(nil).Ask(h.ask, h.after, true, 1) },
		"Add to nil":    func(g *index.Engine, h handed) { (*index.Engine)(nil).Add(h.e) },
	}
}

// told is what is answered to the question that is handed in, from the first one on.
func told(g *index.Engine, h handed) []api.Entry {
	list, _, _ := g.Ask(h.ask, api.Mark{}, false, 99)
	return list
}

// spoil writes into a list, and into the labels that stand there, room too.
func spoil(list []api.Entry) {
	room := list[:cap(list)]
	for i := range room {
		labels := room[i].Labels[:cap(room[i].Labels)]
		for k := range labels {
			labels[k] = api.Label{Name: "zz", Value: "spoilt"}
		}
		room[i] = entry(5, "spoilt c a b")
	}
}

// known is an engine of which the question that is handed in tells all but one entry, in whose order h's own comes last but one.
func known() *index.Engine {
	return engine(entry(9, "c-a"), entry(5, "a c", "app", "x"), entry(2, "c b", "env", "y"), entry(2, "none"))
}

// What is handed in stays as it is, room too; each call is looked at alone, so that none sets right what another one did.
func TestP13_1_HandedInIsKept(t *testing.T) {
	for name, call := range calls() {
		for _, g := range []*index.Engine{index.New(), known(), engine(spare().e)} {
			h := spare()
			call(g, h)
			if !equal(h, spare()) {
				t.Errorf("behind %s: %v, not %v", name, h, spare())
			}
		}
	}
}

// An engine has entries as they were when they were added, and answers questions as they are when they are asked.
func TestP13_1_HandedInIsntKept(t *testing.T) {
	want := []api.Entry{entry(2, "c b", "env", "y"), entry(5, "a c", "app", "x"), entry(5, "c a", "app", "x", "env", "y"), entry(9, "c-a")}
	for name, call := range calls() {
		h := spare()
		g := known()
		g.Add(h.e)
		call(g, h)
		h.ruin()
		if got := told(g, spare()); !allSame(got, want) || g.Len() != 5 {
			t.Errorf("behind what was written behind %s: %s, not %s", name, text(got), text(want))
		}
		g.Add(spare().e)
		if g.Len() != 5 {
			t.Errorf("behind what was written behind %s an entry is added again", name)
		}
	}
	h := spare()
	g := known()
	g.Add(h.e)
	h.words[0], h.words[2] = "nobody", "nobody"
	asks(t, g, h.ask, api.Mark{}, false, 9, nil, true)
	h.words[2] = "b"
	asks(t, g, h.ask, api.Mark{}, false, 9, nil, true)
	h.words[1] = "c"
	asks(t, g, h.ask, api.Mark{}, false, 9, want[:1], true)
}

// An entry's labels may be written anew for the next one.
func TestP13_1_LabelsOfTheNextOne(t *testing.T) {
	labels := []api.Label{{Name: "app"}}
	g := index.New()
	var want []api.Entry
	for _, value := range []string{"a", "b", "c", "b", "a", "d"} {
		labels[0].Value = value
		g.Add(api.Entry{At: 1, Labels: labels, Line: "x"})
	}
	for _, value := range []string{"a", "b", "c", "d"} {
		want = append(want, entry(1, "x", "app", value))
	}
	has(t, g, want...)
}

// The lists of an answer are new memory, those of labels too: they share none with what was handed in, with an earlier answer, or with one another.
func TestP13_1_AnswersAreNewMemory(t *testing.T) {
	h := spare()
	seen := map[any]string{}
	look := func(why string, list []api.Entry, more ...[]api.Label) {
		t.Helper()
		var places []any
		room := list[:cap(list)]
		for i := range room {
			places = append(places, &room[i])
			more = append(more, room[i].Labels)
		}
		for _, labels := range more {
			labels = labels[:cap(labels)]
			for i := range labels {
				places = append(places, &labels[i])
			}
		}
		for _, place := range places {
			if seen[place] != "" {
				t.Errorf("%s: in memory of %s", why, seen[place])
			}
			seen[place] = why
		}
	}
	look("what was handed in", nil, h.labels, h.marked)
	g := known()
	g.Add(h.e)
	for range 3 {
		for n := range 6 {
			for _, desc := range []bool{false, true} {
				for _, after := range []api.Mark{{}, h.after, behind(h.e)} {
					list, _, _ := g.Ask(h.ask, after, desc, n)
					look("an answer", list)
					list, _, _ = g.Ask(always(), after, desc, n)
					look("an answer of all", list)
				}
			}
		}
	}
}

// What is written into an answer isn't seen in a later one, in an earlier one, nor in what was handed in.
func TestP13_1_WhatIsWrittenIntoAnAnswerIsntSeen(t *testing.T) {
	h := spare()
	g := known()
	g.Add(h.e)
	first := told(g, h)
	want := []api.Entry{entry(2, "c b", "env", "y"), entry(5, "a c", "app", "x"), entry(5, "c a", "app", "x", "env", "y"), entry(9, "c-a")}
	for n := range 6 {
		for _, desc := range []bool{false, true} {
			for _, ask := range []any{h.ask, always(), always(row("c"))} {
				list, _, _ := g.Ask(ask, api.Mark{}, desc, n)
				spoil(list)
				_ = append(list, entry(5, "spoilt c a b"))
			}
		}
	}
	if !equal(h, spare()) {
		t.Errorf("%v, not %v", h, spare())
	}
	if again := told(g, h); !allSame(first, want) || !allSame(again, want) {
		t.Errorf("%s, then %s, not %s", text(first), text(again), text(want))
	}
	has(t, g, append([]api.Entry{entry(2, "none")}, want...)...)
}

// What is answered stays as it is, whatever is added and asked behind it.
func TestP13_1_AnswersStay(t *testing.T) {
	g := known()
	early := told(g, spare())
	want := slices.Clone(early)
	for _, e := range rising {
		g.Add(e)
		told(g, spare())
	}
	if !allSame(early, want) {
		t.Errorf("%s, not %s", text(early), text(want))
	}
}

// Engines know nothing of one another.
func TestP13_1_EnginesKnowNothingOfOneAnother(t *testing.T) {
	one, two, none := index.New(), index.New(), index.New()
	for i, e := range rising {
		if i%3 > 0 {
			one.Add(e)
		}
		if i%3 < 2 {
			two.Add(e)
		}
	}
	for _, q := range questions() {
		var first, second []int
		for _, i := range q.kept {
			if i%3 > 0 {
				first = append(first, i)
			}
			if i%3 < 2 {
				second = append(second, i)
			}
		}
		asks(t, one, q.ask, api.Mark{}, false, 50, at(first), true)
		asks(t, two, q.ask, api.Mark{}, false, 50, at(second), true)
		asks(t, none, q.ask, api.Mark{}, false, 50, nil, true)
	}
	if one.Len() != 10 || two.Len() != 10 || none.Len() != 0 {
		t.Errorf("%d, %d, %d", one.Len(), two.Len(), none.Len())
	}
}

// Of what is as great as may be, and of more, the calls end.
func TestP13_1_OfGreatOnesCallsEnd(t *testing.T) {
	g := index.New()
	for i := range 3000 {
		g.Add(entry(i, strings.Repeat("a b ", 50)))
	}
	rows := slices.Repeat([][]string{slices.Repeat([]string{"a", "b"}, 32)}, 64)
	if list, all, err := g.Ask(always(rows...), api.Mark{}, true, 3000); len(list) != 3000 || !all || err != api.OK {
		t.Errorf("%d entries, %v, error %d", len(list), all, err)
	}
	asks(t, g, always(append(rows[:63], row("a", "none"))...), api.Mark{}, true, 0, nil, false)
	asks(t, g, always(append(rows[:63], row("none"))...), api.Mark{}, true, 9, nil, true)
	fails(t, g, always(append(rows, row("a"))...), api.ErrArg)
}
