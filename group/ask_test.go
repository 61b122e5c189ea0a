package group_test

import (
	"math"
	"math/rand"
	"slices"
	"testing"

	"magpie/api"
	"magpie/group"
	"magpie/index"
	"magpie/record"
	"magpie/scan"
	"magpie/stream"
)

// questions are some of a kind that can be.
func questions(kind int) []any {
	times := [][2]int{{-api.MaxTime, api.MaxTime}, {5, 5}, {0, 5}, {-1, 0}, {6, 9}, {5, 4}, {api.MaxTime, -api.MaxTime}}
	var out []any
	for _, x := range times {
		out = append(out, whole(kind, x[0], x[1]))
		switch kind {
		case api.Tokens:
			for _, all := range [][][]string{{{"a"}}, {{"a", "b"}}, {{"a"}, {"b"}}, {{}}, {{"a", "c"}, {"b", xs(200)}}, {{"A"}}, {{"é"}, {"zz"}}} {
				out = append(out, api.TokenAsk{From: x[0], To: x[1], All: all})
			}
		case api.Streams:
			for _, match := range [][]api.Matcher{{{Name: "app", Value: "x"}}, {{Name: "app", Not: true, Value: "x"}}, {{Name: "a"}}, {{Name: "a", Value: "2"}, {Name: "b", Not: true}}, {{Name: "zz", Value: "a"}}} {
				out = append(out, api.StreamAsk{From: x[0], To: x[1], Match: match})
			}
		}
	}
	return out
}

// engine is one of a kind, made by its own layer, that has those entries.
func engine(kind int, list []api.Entry) group.Engine {
	var g group.Engine
	switch kind {
	case api.Tokens:
		g = index.New()
	case api.Streams:
		g = stream.New()
	default:
		g = scan.New()
	}
	for _, e := range list {
		g.Add(copied(e))
	}
	return g
}

// asLike asks whether a replica that is up answers as an engine of its kind that has the log's entries, errors too.
func asLike(t *testing.T, g *group.Group, i int, like group.Engine, ask any, after api.Mark, desc bool, n int) {
	t.Helper()
	got, all, err := g.Ask(i, ask, after, desc, n)
	want, wantAll, wantErr := like.Ask(ask, after, desc, n)
	if !allSame(got, want) || all != wantAll || err != wantErr {
		t.Fatalf("replica %d, %s, %v, %v, %d: %s, %v, error %d; not %s, %v, %d", i, asked(ask), after.Has, desc, n, text(got), all, err, text(want), wantAll, wantErr)
	}
}

// Each kind, asked any question, either way round, behind any mark, for any number: as an engine of its kind answers.
func TestP16_1_AskAsItsEngine(t *testing.T) {
	for _, list := range [][]api.Entry{nil, canBe[:1], canBe, slices.Concat(few, canBe, few)} {
		g := made(t, 2, 3, 1)
		takes(t, g, list...)
		for i := range g.Size() {
			like := engine(g.Kind(i), list)
			asks := slices.Concat(questions(1), questions(2), questions(3), nobodys(), wrongOnes())
			for _, ask := range asks {
				for _, after := range append(marks(), behind(few[0]), behind(canBe[3])) {
					for _, desc := range []bool{false, true} {
						for _, n := range []int{math.MinInt, -1, 0, 1, 2, 5, 50, math.MaxInt} {
							asLike(t, g, i, like, ask, after, desc, n)
						}
					}
				}
			}
		}
	}
}

// A few spelt out: of words, of labels, of times alone.
func TestP16_1_AskFew(t *testing.T) {
	a, b, c, d := entry(1, "a b", "app", "x"), entry(2, "b c", "app", "y"), entry(2, "b c", "app", "y", "env", "z"), entry(3, "c")
	g := made(t, api.Scans, api.Tokens, api.Streams)
	takes(t, g, d, b, a, b, c)
	words := func(all ...[]string) any { return api.TokenAsk{From: 0, To: 9, All: all} }
	labels := func(match ...api.Matcher) any { return api.StreamAsk{From: 0, To: 9, Match: match} }
	for _, x := range []struct {
		i     int
		ask   any
		after api.Mark
		desc  bool
		n     int
		want  []api.Entry
		all   bool
	}{
		{1, words([]string{"b"}), api.Mark{}, false, 9, []api.Entry{a, b, c}, true}, {1, words([]string{"b"}), api.Mark{}, true, 2, []api.Entry{c, b}, false}, {1, words([]string{"b"}), behind(b), false, 9, []api.Entry{c}, true}, {1, words([]string{"a", "c"}, []string{"b"}), behind(a), false, 1, []api.Entry{b}, false}, {1, words([]string{"a"}, []string{"c"}), api.Mark{}, false, 9, nil, true}, {1, words(), behind(c), true, 9, []api.Entry{b, a}, true},
		{2, labels(api.Matcher{Name: "app", Value: "y"}), api.Mark{}, false, 9, []api.Entry{b, c}, true}, {2, labels(api.Matcher{Name: "app", Not: true, Value: "y"}), api.Mark{}, false, 9, []api.Entry{a, d}, true}, {2, labels(api.Matcher{Name: "env"}), api.Mark{}, true, 1, []api.Entry{d}, false}, {2, labels(), behind(c), false, 0, nil, false}, {2, labels(), behind(d), false, 0, nil, true},
		{0, whole(3, 2, 3), api.Mark{}, false, 9, []api.Entry{b, c, d}, true}, {0, whole(3, 2, 2), api.Mark{}, true, 1, []api.Entry{c}, false}, {0, whole(3, 3, 2), api.Mark{}, true, 1, nil, true}, {0, whole(3, 0, 9), behind(entry(2, "")), false, 2, []api.Entry{b, c}, false}, {0, whole(3, 0, 9), behind(entry(9, "")), false, 2, nil, true},
	} {
		answers(t, g, x.i, x.ask, x.after, x.desc, x.n, x.want, x.all)
	}
}

// A question of another kind, or of nobody's: ErrKind, whether it could be or not; one of its kind that can't be: ErrArg.
func TestP16_1_AskOfOtherKinds(t *testing.T) {
	for _, kinds := range rows() {
		g, s := made(t, kinds...), shadowOf(kinds...)
		s.take(t, g, few...)
		for i, kind := range kinds {
			for _, other := range kindsOf {
				want := api.ErrKind
				if other == kind {
					want = api.ErrArg
				} else {
					fails(t, g, i, always(other), api.ErrKind)
				}
				fails(t, g, i, whole(other, api.MaxTime+1, 0), want)
				fails(t, g, i, whole(other, 0, math.MinInt), want)
			}
			for _, ask := range nobodys() {
				fails(t, g, i, ask, api.ErrKind)
			}
		}
		s.looks(t, "asked what can't be", g)
	}
}

// One that is down answers nothing but that, whatever it is asked; the others go on.
func TestP16_1_AskOfOneThatIsDown(t *testing.T) {
	for _, kinds := range rows() {
		g, s := made(t, kinds...), shadowOf(kinds...)
		s.take(t, g, few...)
		for i, kind := range kinds {
			is(t, "Crash", g.Crash(i), api.OK)
			s.up[i] = false
			for _, ask := range slices.Concat([]any{always(1), always(2), always(3)}, nobodys(), wrongOnes()) {
				fails(t, g, i, ask, api.ErrDown)
			}
			s.looks(t, "one more down", g)
			s.take(t, g, entry(i, "q"))
			fails(t, g, i, always(kind), api.ErrDown)
		}
		s.restart(t, g)
		s.looks(t, "up again", g)
	}
}

// Any entries and any questions, while replicas go down and come up.
func TestP16_1_AskAny(t *testing.T) {
	r := rand.New(rand.NewSource(162))
	for range 200 {
		kinds := rows()[r.Intn(39)]
		g, s := made(t, kinds...), shadowOf(kinds...)
		for range r.Intn(api.MaxEntries) {
			s.take(t, g, strewn(r))
			i := r.Intn(len(kinds))
			s.does(t, "down or up", g, act{crashOne + r.Intn(2), i})
			if k := r.Intn(len(kinds)); s.up[k] && r.Intn(5) == 0 {
				like := engine(kinds[k], s.log)
				asks := append(questions(kinds[k]), questions(1+r.Intn(3))...)
				for range 5 {
					after := []api.Mark{{}, behind(strewn(r)), behind(s.log[r.Intn(len(s.log))])}[r.Intn(3)]
					asLike(t, g, k, like, asks[r.Intn(len(asks))], after, r.Intn(2) == 0, r.Intn(12))
				}
			}
		}
	}
}

// The entries' number is what is told, by as many as a log may have, to the last one.
func TestP16_1_AskOfAFullLog(t *testing.T) {
	g := made(t, 1, 2, 3)
	var list []api.Entry
	for i := range api.MaxEntries {
		list = append(list, entry(i%10, xs(i/10), "app", "x"))
	}
	takes(t, g, list...)
	want := record.Sort(false, list...)
	for i, kind := range kindsOf {
		for n := range api.MaxEntries {
			answers(t, g, i, always(kind), api.Mark{}, false, n, want[:n], false)
			answers(t, g, i, always(kind), behind(want[n]), false, math.MaxInt, want[n+1:], true)
		}
		answers(t, g, i, always(kind), api.Mark{}, false, api.MaxEntries, want, true)
	}
}
