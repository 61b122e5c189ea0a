package group_test

import (
	"fmt"
	"slices"
	"testing"

	"magpie/api"
	"magpie/group"
)

// handed is what is handed in: kinds, an entry, a mark, and questions, and the whole of their lists, with the room behind, in which something stands that isn't theirs.
type handed struct {
	kinds   []int
	e       api.Entry
	after   api.Mark
	asks    []any
	numbers []int
	labels  []api.Label
	marked  []api.Label
	rows    [][]string
	words   []string
	match   []api.Matcher
}

// spare is such a one, in memory of its own.
func spare() handed {
	h := handed{
		numbers: []int{1, 2, 3, 9},
		labels:  []api.Label{{Name: "app", Value: "x"}, {Name: "env", Value: "y"}, {Name: "far", Value: "off"}},
		marked:  []api.Label{{Name: "app", Value: "x"}, {Name: "far", Value: "off"}},
		words:   []string{"a", "b", "far"},
		match:   []api.Matcher{{Name: "app", Value: "x"}, {Name: "far", Not: true, Value: "off"}},
	}
	h.rows = [][]string{h.words[:2], {"far"}}
	h.kinds = h.numbers[:3]
	h.e = api.Entry{At: 5, Labels: h.labels[:2], Line: "b"}
	h.after = api.Mark{Has: true, Entry: api.Entry{At: 5, Labels: h.marked[:1], Line: "a"}}
	h.asks = []any{api.TokenAsk{From: 1, To: 9, All: h.rows[:1]}, api.StreamAsk{From: 1, To: 9, Match: h.match[:1]}, api.ScanAsk{From: 1, To: 9}}
	return h
}

// told is all that stands in what is handed in, room too.
func (h handed) told() string {
	return fmt.Sprint(h.kinds, h.e, h.after, h.asks, h.numbers, h.labels, h.marked, h.rows, h.words, h.match)
}

// ruin writes into all lists that are handed in, room too.
func (h handed) ruin() {
	for i := range h.numbers {
		h.numbers[i] = 7
	}
	for i := range h.labels {
		h.labels[i] = api.Label{Name: "zz", Value: "spoilt"}
	}
	for i := range h.marked {
		h.marked[i] = api.Label{Name: "zz", Value: "spoilt"}
	}
	for i := range h.words {
		h.words[i] = "spoilt"
	}
	for i := range h.rows {
		h.rows[i] = []string{"spoilt"}
	}
	for i := range h.match {
		h.match[i] = api.Matcher{Name: "zz", Value: "spoilt"}
	}
}

// call is one of a group, that is handed something.
type call func(g *group.Group, h handed)

// calls are all calls, of what is handed in.
func calls() map[string]call {
	out := map[string]call{
		"New":           func(g *group.Group, h handed) { group.New(h.kinds...) },
		"New of wrong":  func(g *group.Group, h handed) { group.New(h.numbers[1:]...) },
		"New of many":   func(g *group.Group, h handed) { group.New(h.numbers...) },
		"Take":          func(g *group.Group, h handed) { g.Take(h.e) },
		"Take twice":    func(g *group.Group, h handed) { g.Take(h.e); g.Take(h.e) },
		"Take of none":  func(g *group.Group, h handed) { (*group.Group)(nil).Take(h.e) },
		"Take of wrong": func(g *group.Group, h handed) { h.e.Line = "\n"; g.Take(h.e) },
		"Log":           func(g *group.Group, h handed) { spoil(g.Log()) },
		"Crash":         func(g *group.Group, h handed) { g.Crash(0); g.Take(h.e); g.Restart(0); g.Crash(0); g.Restart(0) },
	}
	for i := range 3 {
		name := fmt.Sprint("Ask ", i)
		out[name] = func(g *group.Group, h handed) { g.Ask(i, h.asks[i], h.after, true, 2) }
		out[name+" for all"] = func(g *group.Group, h handed) { g.Ask(i, h.asks[i], api.Mark{}, false, 99) }
		out[name+" for none"] = func(g *group.Group, h handed) { g.Ask(i, h.asks[i], h.after, false, 0) }
		out[name+", another kind"] = func(g *group.Group, h handed) { g.Ask(i, h.asks[(i+1)%3], h.after, false, 9) }
		out[name+", none such"] = func(g *group.Group, h handed) { g.Ask(i+3, h.asks[i], h.after, false, 9) }
		out[name+", down"] = func(g *group.Group, h handed) {
			g.Crash(i)
			g.Ask(i, h.asks[i], h.after, false, 9)
			g.Restart(i)
		}
		out[name+" and write"] = func(g *group.Group, h handed) {
			list, _, _ := g.Ask(i, h.asks[i], api.Mark{}, false, 99)
			spoil(list)
		}
	}
	return out
}

// spoil writes into a list, and into the labels that stand there, room too.
func spoil(list []api.Entry) {
	room := list[:cap(list)]
	for i := range room {
		labels := room[i].Labels[:cap(room[i].Labels)]
		for k := range labels {
			labels[k] = api.Label{Name: "zz", Value: "spoilt"}
		}
		room[i] = entry(5, "spoilt", "app", "x")
	}
}

// known is a group of those kinds that took some.
func known(t *testing.T, s *shadow, kinds ...int) *group.Group {
	t.Helper()
	g := made(t, kinds...)
	s.take(t, g, entry(9, "c", "app", "x"), entry(5, "a", "app", "x", "env", "y"), entry(5, "a", "app", "x"), entry(2, "b", "app", "x", "env", "y"), entry(12, "none", "app", "z"))
	return g
}

// What is handed in stays as it is, room too; each call is looked at alone, so that none sets right what another one did.
func TestP16_1_HandedInIsKept(t *testing.T) {
	for name, do := range calls() {
		for _, had := range []bool{false, true} {
			h := spare()
			g := made(t, h.kinds...)
			if had {
				takes(t, g, few...)
				g.Take(h.e)
			}
			do(g, h)
			if h.told() != spare().told() {
				t.Errorf("behind %s: %s, not %s", name, h.told(), spare().told())
			}
		}
	}
}

// A group has entries as they were when they were taken, and kinds as they were when it was made, whatever is written behind that: at once, and behind a Restart.
func TestP16_1_HandedInIsntKept(t *testing.T) {
	for name, do := range calls() {
		h, s := spare(), shadowOf(1, 2, 3)
		g := made(t, h.kinds...)
		s.take(t, g, few...)
		is(t, "Take", g.Take(h.e), api.OK)
		do(g, h)
		log := copies(g.Log())
		epochs := []int{g.Epoch(0), g.Epoch(1), g.Epoch(2)}
		h.ruin()
		s.log, s.epochs = log, epochs
		s.looks(t, "behind what was written behind "+name, g)
		if !same(log[3], spare().e) {
			t.Errorf("%s: %s", name, text(log))
		}
		s.crash(t, g, 7)
		s.restart(t, g)
		s.looks(t, "and behind a Restart", g)
		s.take(t, g, spare().e)
		s.looks(t, "and taken again", g)
	}
}

// An entry's labels may be written anew for the next one.
func TestP16_1_LabelsOfTheNextOne(t *testing.T) {
	labels := []api.Label{{Name: "app"}}
	g, s := made(t, kindsOf...), shadowOf(kindsOf...)
	for i, value := range []string{"a", "b", "c", "b", "a", "d"} {
		labels[0].Value = value
		is(t, "Take", g.Take(api.Entry{At: 1, Labels: labels, Line: "x"}), api.OK)
		s.log = append(s.log, entry(1, "x", "app", value))
		s.looks(t, "taken", g)
		s.crash(t, g, 1<<(i%3))
		s.restart(t, g)
		s.looks(t, "up again", g)
	}
}

// The lists of an answer are new memory, those of labels too: they share none with what was handed in, with an earlier answer, or with one another.
func TestP16_1_AnswersAreNewMemory(t *testing.T) {
	h := spare()
	seen := map[any]string{}
	look := func(why string, list []api.Entry, more ...[]api.Label) {
		t.Helper()
		var places []any
		room := list[:cap(list)]
		for i := range room {
			places = append(places, &room[i])
			more = append(more, room[i].Labels)
		}
		for _, labels := range more {
			labels = labels[:cap(labels)]
			for i := range labels {
				places = append(places, &labels[i])
			}
		}
		for _, place := range places {
			if seen[place] != "" {
				t.Errorf("%s: in memory of %s", why, seen[place])
			}
			seen[place] = why
		}
	}
	look("what was handed in", nil, h.labels, h.marked)
	for _, kinds := range [][]int{{1, 2, 3}, {1, 1, 1}, {2, 2, 2}, {3, 3, 3}} {
		s := shadowOf(kinds...)
		g := known(t, s, kinds...)
		g.Take(h.e)
		g.Take(h.e)
		for n := range 9 {
			look("a log", g.Log())
			for i, kind := range kinds {
				list, _, _ := g.Ask(i, always(kind), api.Mark{}, n%2 == 0, n)
				look("an answer", list)
				list, _, _ = g.Ask(i, h.asks[kind-1], h.after, n%2 == 0, n)
				look("an answer behind a mark", list)
			}
			g.Crash(n % 3)
			look("a log while one is down", g.Log())
			g.Restart(n % 3)
		}
	}
}

// What is written into an answer isn't seen in a later one, in an earlier one, in another replica, behind a Restart, nor in what was handed in.
func TestP16_1_WhatIsWrittenIntoAnAnswerIsntSeen(t *testing.T) {
	for _, kinds := range rows() {
		h, s := spare(), shadowOf(kinds...)
		g := known(t, s, kinds...)
		is(t, "Take", g.Take(h.e), api.OK)
		s.log = append(s.log, spare().e)
		early := g.Log()
		for n := range 8 {
			for i, kind := range kinds {
				for _, ask := range []any{always(kind), h.asks[kind-1]} {
					list, _, _ := g.Ask(i, ask, api.Mark{}, n%2 == 0, n)
					spoil(list)
					_ = append(list, entry(5, "spoilt", "app", "x"))
				}
			}
			list := g.Log()
			spoil(list)
			_ = append(list[:0], entry(5, "spoilt", "app", "x"))
			s.looks(t, "behind what was written", g)
			s.crash(t, g, 1<<(n%len(kinds)))
			s.restart(t, g)
			s.looks(t, "and behind a Restart", g)
		}
		if !allSame(early, s.log) || h.told() != spare().told() {
			t.Errorf("%s, not %s; %s", text(early), text(s.log), h.told())
		}
	}
}

// What is written into a log's room isn't seen in it behind the next Take, at any length.
func TestP16_1_WhatIsWrittenIntoALogIsntSeen(t *testing.T) {
	g, s := made(t, kindsOf...), shadowOf(kindsOf...)
	for i := range api.MaxEntries {
		spoil(g.Log())
		_ = append(g.Log(), entry(1, "spoilt"))
		s.take(t, g, entry(i%7, xs(i), []string{"app", "x", "env", "y"}[:i%3*2]...))
		s.looks(t, "taken", g)
	}
}

// What is answered stays as it is, whatever is taken, goes down and comes up behind it.
func TestP16_1_AnswersStay(t *testing.T) {
	for _, kinds := range rows() {
		s := shadowOf(kinds...)
		g := known(t, s, kinds...)
		early := [][]api.Entry{g.Log()}
		for i, kind := range kinds {
			list, _, _ := g.Ask(i, always(kind), api.Mark{}, false, 99)
			early = append(early, list)
		}
		var want [][]api.Entry
		for _, list := range early {
			want = append(want, copies(list))
		}
		for k, e := range canBe {
			s.take(t, g, e, e)
			s.crash(t, g, 1<<(k%len(kinds)))
			s.take(t, g, entry(k, "q"))
			s.restart(t, g)
			s.looks(t, "later", g)
		}
		for i := range early {
			if !allSame(early[i], want[i]) {
				t.Errorf("%s, not %s", text(early[i]), text(want[i]))
			}
		}
	}
}

// Groups know nothing of one another, though they were made of the same kinds, and took the same entries.
func TestP16_1_GroupsKnowNothingOfOneAnother(t *testing.T) {
	kinds := slices.Clone(kindsOf)
	one, two, nothing := made(t, kinds...), made(t, kinds...), made(t, kinds...)
	s1, s2, s0 := shadowOf(kinds...), shadowOf(kinds...), shadowOf(kinds...)
	for i, e := range canBe {
		if i%3 > 0 {
			s1.take(t, one, e)
		}
		if i%3 < 2 {
			s2.take(t, two, e)
		}
		s1.does(t, "one", one, act{crashOne + i%2, i % 3})
		s1.looks(t, "one", one)
		s2.looks(t, "two", two)
		s0.looks(t, "none", nothing)
		s2.does(t, "two", two, act{crashOne + i%2, (i + 1) % 3})
		s1.looks(t, "one", one)
		s2.looks(t, "two", two)
		s0.looks(t, "none", nothing)
	}
}

// Of what is as great as may be, again and again, the calls end.
func TestP16_1_OfGreatOnesCallsEnd(t *testing.T) {
	g, s := made(t, 3, 2, 1), shadowOf(3, 2, 1)
	for i := range api.MaxEntries {
		s.take(t, g, entry(-i, xs(196)+fmt.Sprint(1000+i), "a", xs(20), "b", fmt.Sprint(i%5), "c", "", xs(20), xs(20)))
	}
	for range 300 {
		for i := range 3 {
			s.does(t, "down", g, act{crashOne, i})
			s.does(t, "up", g, act{restartOne, i})
		}
		is(t, "Take", g.Take(entry(1, "a")), api.ErrBusy)
	}
	s.looks(t, "at last", g)
	alike(t, "at last", g)
}
