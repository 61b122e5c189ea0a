package stream_test

import (
	"slices"
	"strconv"
	"testing"

	"magpie/api"
	"magpie/stream"
)

// handed is what is handed in: an entry, a question and a mark, and the whole of their lists, with the room behind, in which something stands that isn't theirs.
type handed struct {
	e        api.Entry
	ask      api.StreamAsk
	after    api.Mark
	labels   []api.Label
	marked   []api.Label
	matchers []api.Matcher
}

// spare is such a one, in memory of its own; its matchers are in no order.
func spare() handed {
	h := handed{
		labels:   []api.Label{{Name: "app", Value: "x"}, {Name: "env", Value: "y"}, {Name: "far", Value: "off"}},
		marked:   []api.Label{{Name: "app", Value: "x"}, {Name: "far", Value: "off"}},
		matchers: []api.Matcher{isnt("none", "x"), is("app", "x"), is("far", "off")},
	}
	h.e = api.Entry{At: 5, Labels: h.labels[:2], Line: "b"}
	h.ask = api.StreamAsk{From: 1, To: 9, Match: h.matchers[:2]}
	h.after = api.Mark{Has: true, Entry: api.Entry{At: 5, Labels: h.marked[:1], Line: "a"}}
	return h
}

// equal: whether two are the same in all, room too.
func equal(a, b handed) bool {
	return same(a.e, b.e) && a.ask.From == b.ask.From && a.ask.To == b.ask.To && slices.Equal(a.ask.Match, b.ask.Match) && a.after.Has == b.after.Has && same(a.after.Entry, b.after.Entry) &&
		slices.Equal(a.labels, b.labels) && slices.Equal(a.marked, b.marked) && slices.Equal(a.matchers, b.matchers)
}

// ruin writes into all lists that are handed in, room too.
func (h handed) ruin() {
	for i := range h.labels {
		h.labels[i] = api.Label{Name: "zz", Value: "spoilt"}
	}
	for i := range h.marked {
		h.marked[i] = api.Label{Name: "zz", Value: "spoilt"}
	}
	for i := range h.matchers {
		h.matchers[i] = is("zz", "spoilt")
	}
}

// calls are all calls, of what is handed in.
func calls() map[string]func(g *stream.Engine, h handed) {
	return map[string]func(g *stream.Engine, h handed){
		"Add":           func(g *stream.Engine, h handed) { g.Add(h.e) },
		"Add twice":     func(g *stream.Engine, h handed) { g.Add(h.e); g.Add(h.e) },
		"Ask":           func(g *stream.Engine, h handed) { g.Ask(h.ask, h.after, false, 2) },
		"Ask for one":   func(g *stream.Engine, h handed) { g.Ask(h.ask, h.after, true, 1) },
		"Ask for none":  func(g *stream.Engine, h handed) { g.Ask(h.ask, h.after, true, 0) },
		"Ask for all":   func(g *stream.Engine, h handed) { g.Ask(h.ask, api.Mark{}, true, 99) },
		"Ask and write": func(g *stream.Engine, h handed) { spoil(told(g, h)) },
		"ErrArg":        func(g *stream.Engine, h handed) { h.ask.To = 1 << 41; g.Ask(h.ask, h.after, true, 1) },
		"ErrKind":       func(g *stream.Engine, h handed) { g.Ask(&h.ask, h.after, true, 1) },
		"ErrNil":        func(g *stream.Engine, h handed) { (*stream.Engine)(nil).Ask(h.ask, h.after, true, 1) },
		"Add to nil":    func(g *stream.Engine, h handed) { (*stream.Engine)(nil).Add(h.e) },
	}
}

// told is what is answered to the question that is handed in, from the first one on.
func told(g *stream.Engine, h handed) []api.Entry {
	list, _, _ := g.Ask(h.ask, api.Mark{}, false, 99)
	return list
}

// spoil writes into a list, and into the labels that stand there, room too.
func spoil(list []api.Entry) {
	room := list[:cap(list)]
	for i := range room {
		labels := room[i].Labels[:cap(room[i].Labels)]
		for k := range labels {
			labels[k] = api.Label{Name: "zz", Value: "spoilt"}
		}
		room[i] = entry(5, "spoilt", "app", "x")
	}
}

// known is an engine of which the question that is handed in tells all but one entry, in whose order h's own comes last but one, being of the labels of some that are there.
func known() *stream.Engine {
	return engine(entry(9, "c", "app", "x"), entry(5, "a", "app", "x", "env", "y"), entry(5, "a", "app", "x"), entry(2, "b", "app", "x", "env", "y"), entry(2, "none", "app", "z"))
}

// strange is one that tells the same, but for those of the labels of h's own: so h's begins their flow.
func strange() *stream.Engine {
	return engine(entry(5, "a", "app", "x"), entry(2, "none", "app", "z"), entry(9, "c", "app", "x"))
}

// knows are what is told of known, and of strange, when h's own was added.
func knows() (known, strange []api.Entry) {
	list := []api.Entry{entry(2, "b", "app", "x", "env", "y"), entry(5, "a", "app", "x"), entry(5, "a", "app", "x", "env", "y"), entry(5, "b", "app", "x", "env", "y"), entry(9, "c", "app", "x")}
	return list, []api.Entry{list[1], list[3], list[4]}
}

// What is handed in stays as it is, room too; each call is looked at alone, so that none sets right what another one did.
func TestP14_1_HandedInIsKept(t *testing.T) {
	for name, call := range calls() {
		for _, g := range []*stream.Engine{stream.New(), known(), strange(), engine(spare().e)} {
			h := spare()
			call(g, h)
			if !equal(h, spare()) {
				t.Errorf("behind %s: %v, not %v", name, h, spare())
			}
		}
	}
}

// An engine has entries as they were when they were added, and answers questions as they are when they are asked.
func TestP14_1_HandedInIsntKept(t *testing.T) {
	inKnown, inStrange := knows()
	for name, call := range calls() {
		for _, c := range []struct {
			g    *stream.Engine
			want []api.Entry
		}{{known(), inKnown}, {strange(), inStrange}} {
			h := spare()
			c.g.Add(h.e)
			call(c.g, h)
			h.ruin()
			if got := told(c.g, spare()); !allSame(got, c.want) || c.g.Len() != len(c.want)+1 {
				t.Errorf("behind what was written behind %s: %s, not %s", name, text(got), text(c.want))
			}
			c.g.Add(spare().e)
			if c.g.Len() != len(c.want)+1 {
				t.Errorf("behind what was written behind %s an entry is added again", name)
			}
		}
	}
	h := spare()
	g := known()
	g.Add(h.e)
	h.matchers[0], h.matchers[2] = is("none", "x"), is("app", "x")
	asks(t, g, h.ask, api.Mark{}, false, 9, nil, true)
	h.matchers[0] = is("app", "z")
	asks(t, g, h.ask, api.Mark{}, false, 9, nil, true)
	h.matchers[1] = isnt("app", "x")
	asks(t, g, h.ask, api.Mark{}, false, 9, []api.Entry{entry(2, "none", "app", "z")}, true)
}

// An entry's labels may be written anew for the next one.
func TestP14_1_LabelsOfTheNextOne(t *testing.T) {
	labels := []api.Label{{Name: "app"}}
	g := stream.New()
	var want []api.Entry
	for _, value := range []string{"a", "b", "c", "b", "a", "d"} {
		labels[0].Value = value
		g.Add(api.Entry{At: 1, Labels: labels, Line: "x"})
	}
	for _, value := range []string{"a", "b", "c", "d"} {
		want = append(want, entry(1, "x", "app", value))
	}
	has(t, g, want...)
}

// The lists of an answer are new memory, those of labels too: they share none with what was handed in, with an earlier answer, or with one another.
func TestP14_1_AnswersAreNewMemory(t *testing.T) {
	h := spare()
	seen := map[any]string{}
	look := func(why string, list []api.Entry, more ...[]api.Label) {
		t.Helper()
		var places []any
		room := list[:cap(list)]
		for i := range room {
			places = append(places, &room[i])
			more = append(more, room[i].Labels)
		}
		for _, labels := range more {
			labels = labels[:cap(labels)]
			for i := range labels {
				places = append(places, &labels[i])
			}
		}
		for _, place := range places {
			if seen[place] != "" {
				t.Errorf("%s: in memory of %s", why, seen[place])
			}
			seen[place] = why
		}
	}
	look("what was handed in", nil, h.labels, h.marked)
	for _, g := range []*stream.Engine{known(), strange(), engine(row(40, "app", "x")...)} {
		g.Add(h.e)
		for n := range 50 {
			for _, desc := range []bool{false, true} {
				for _, after := range []api.Mark{{}, h.after, behind(h.e)} {
					list, _, _ := g.Ask(h.ask, after, desc, n%7)
					look("an answer", list)
					list, _, _ = g.Ask(always(), after, desc, n)
					look("an answer of all", list)
				}
			}
		}
	}
}

// What is written into an answer isn't seen in a later one, in an earlier one, nor in what was handed in.
func TestP14_1_WhatIsWrittenIntoAnAnswerIsntSeen(t *testing.T) {
	h := spare()
	g := known()
	g.Add(h.e)
	first := told(g, h)
	want, _ := knows()
	for n := range 7 {
		for _, desc := range []bool{false, true} {
			for _, ask := range []any{h.ask, always(), always(is("env", "y"))} {
				list, _, _ := g.Ask(ask, api.Mark{}, desc, n)
				spoil(list)
				_ = append(list, entry(5, "spoilt", "app", "x"))
			}
		}
	}
	if !equal(h, spare()) {
		t.Errorf("%v, not %v", h, spare())
	}
	if again := told(g, h); !allSame(first, want) || !allSame(again, want) {
		t.Errorf("%s, then %s, not %s", text(first), text(again), text(want))
	}
	has(t, g, append([]api.Entry{want[0], entry(2, "none", "app", "z")}, want[1:]...)...)
}

// What is written into an answer of one label's whole row, and into what comes of it, isn't seen in the row.
func TestP14_1_WhatIsWrittenIntoARowIsntSeen(t *testing.T) {
	for n := range 70 {
		list := row(n, "app", "x")
		g := engine(list...)
		for _, desc := range []bool{false, true} {
			some, _, _ := g.Ask(always(is("app", "x")), api.Mark{}, desc, n)
			spoil(some)
			has(t, g, list...)
		}
		g.Add(entry(10*n, "q", "app", "x"))
		has(t, g, row(n+1, "app", "x")...)
	}
}

// What is answered stays as it is, whatever is added and asked behind it.
func TestP14_1_AnswersStay(t *testing.T) {
	g := known()
	early := told(g, spare())
	var want []api.Entry
	for _, e := range early {
		want = append(want, copied(e))
	}
	for _, e := range append(row(40, "app", "x", "env", "y"), rising...) {
		g.Add(e)
		told(g, spare())
	}
	if !allSame(early, want) {
		t.Errorf("%s, not %s", text(early), text(want))
	}
}

// Engines know nothing of one another.
func TestP14_1_EnginesKnowNothingOfOneAnother(t *testing.T) {
	one, two, none := stream.New(), stream.New(), stream.New()
	for i, e := range rising {
		if i%3 > 0 {
			one.Add(e)
		}
		if i%3 < 2 {
			two.Add(e)
		}
	}
	for _, q := range questions() {
		var first, second []int
		for _, i := range q.kept {
			if i%3 > 0 {
				first = append(first, i)
			}
			if i%3 < 2 {
				second = append(second, i)
			}
		}
		asks(t, one, q.ask, api.Mark{}, false, 50, at(first), true)
		asks(t, two, q.ask, api.Mark{}, false, 50, at(second), true)
		asks(t, none, q.ask, api.Mark{}, false, 50, nil, true)
	}
	if one.Len() != 10 || two.Len() != 10 || none.Len() != 0 {
		t.Errorf("%d, %d, %d", one.Len(), two.Len(), none.Len())
	}
}

// Of what is as great as may be, and of more, the calls end.
func TestP14_1_OfGreatOnesCallsEnd(t *testing.T) {
	const n = 20000
	g := stream.New()
	for i := range n {
		g.Add(entry(i*7919%n, xs(200), "a", xs(20), "b", strconv.Itoa(i%5), "c", "", xs(20), xs(20)))
	}
	long := isnt(xs(20), xs(1024))
	for _, some := range [][]api.Matcher{nil, {long, long, long, long}, {is("a", xs(20)), is("c", ""), is(xs(20), xs(20)), long}} {
		if list, all, err := g.Ask(always(some...), api.Mark{}, true, n); len(list) != n || !all || err != api.OK || g.Len() != n {
			t.Errorf("%d entries, %v, error %d", len(list), all, err)
		}
		if list, all, err := g.Ask(flows(0, n-1, some...), api.Mark{}, false, n-1); len(list) != n-1 || all || err != api.OK {
			t.Errorf("%d entries, %v, error %d", len(list), all, err)
		}
	}
	asks(t, g, always(long, long, long, is("c", xs(1024))), api.Mark{}, true, 9, nil, true)
	fails(t, g, always(long, long, long, long, long), api.ErrArg)
}
