package stream_test

import (
	"math"
	"math/rand"
	"slices"
	"strings"
	"testing"

	"magpie/api"
	"magpie/record"
	"magpie/stream"
)

// rising are entries in their order; most differ from the one ahead in one thing alone.
var rising = []api.Entry{
	entry(-5, "b"),
	entry(1, ""),
	entry(1, "a"),
	entry(1, "", "app", ""),
	entry(1, "a", "app", ""),
	entry(1, "a", "app", "x"),
	entry(1, "b", "app", "x"),
	entry(1, "a", "app", "x", "env", ""),
	entry(1, "a", "app", "x", "env", "y"),
	entry(1, "a", "app", "y"),
	entry(1, "a", "env", "y"),
	entry(2, "a", "app", "x", "env", "y"),
	entry(2, "a", "env", "y"),
	entry(9, "c", "app", "x"),
	entry(10, "-"),
}

// question is one, and for which places of rising it asks.
type question struct {
	ask  api.StreamAsk
	kept []int
}

// questions ask for all, some and none.
func questions() []question {
	every := []int{0, 1, 2, 3, 4, 5, 6, 7, 8, 9, 10, 11, 12, 13, 14}
	x, y := is("app", "x"), is("env", "y")
	hasX := []int{5, 6, 7, 8, 11, 13}
	return []question{
		{always(), every}, {flows(-5, 10), every},
		// A value that is there, wherever; one that isn't; an empty one, which entries without the label have, too.
		{always(x), hasX}, {always(y), []int{8, 10, 11, 12}}, {always(is("app", "y")), []int{9}}, {always(is("app", "z")), nil}, {always(is("app", "")), []int{0, 1, 2, 3, 4, 10, 12, 14}}, {always(is("env", "")), []int{0, 1, 2, 3, 4, 5, 6, 7, 9, 13, 14}},
		{always(isnt("app", "x")), []int{0, 1, 2, 3, 4, 9, 10, 12, 14}}, {always(isnt("app", "z")), every}, {always(isnt("app", "")), []int{5, 6, 7, 8, 9, 11, 13}}, {always(isnt("env", "")), []int{8, 10, 11, 12}},
		// A name that all lack.
		{always(is("none", "")), every}, {always(isnt("none", "")), nil}, {always(is("none", "x")), nil}, {always(isnt("none", "x")), every},
		// All matchers, in any order; the same one twice; one and its opposite.
		{always(x, y), []int{8, 11}}, {always(y, x), []int{8, 11}}, {always(x, is("env", "")), []int{5, 6, 7, 13}}, {always(x, x), hasX}, {always(x, x, x, x), hasX}, {always(x, isnt("app", "x")), nil}, {always(isnt("app", "x"), x), nil}, {always(x, is("app", "y")), nil}, {always(isnt("app", "x"), isnt("app", "y")), []int{0, 1, 2, 3, 4, 10, 12, 14}}, {always(isnt("app", "x"), isnt("app", "x")), []int{0, 1, 2, 3, 4, 9, 10, 12, 14}},
		{always(x, isnt("env", "z"), isnt("env", ""), isnt("none", "x")), []int{8, 11}}, {always(is("none", ""), is("app", ""), is("env", ""), isnt("z", "z")), []int{0, 1, 2, 3, 4, 14}}, {always(isnt("none", "x"), x, y, is("app", "y")), nil},
		// Names and values are asked for as they are.
		{always(is("App", "x")), nil}, {always(is("app", "X")), nil}, {always(is("app", "x ")), nil}, {always(is("ap", "x")), nil}, {always(is("appx", "")), every}, {always(is("app", xs(1024))), nil}, {always(isnt("app", xs(1024))), every},
		{flows(1, 1), every[1:11]}, {flows(-5, 1), every[:11]}, {flows(-4, 9), every[1:14]}, {flows(2, 9), []int{11, 12, 13}}, {flows(10, 10), []int{14}}, {flows(-99, -5), []int{0}}, {flows(11, 99), nil}, {flows(3, 8), nil}, {flows(10, -5), nil}, {flows(2, 1), nil},
		{flows(1, 2, x), []int{5, 6, 7, 8, 11}}, {flows(2, 99, x), []int{11, 13}}, {flows(0, 9, x, y), []int{8, 11}}, {flows(2, 2, y), []int{11, 12}}, {flows(3, 8, x), nil}, {flows(2, 1, x), nil}, {flows(-5, 1, is("app", ""), isnt("env", "y")), []int{0, 1, 2, 3, 4}},
	}
}

// at are rising's entries at these places, in lists of their own.
func at(places []int) []api.Entry {
	var out []api.Entry
	for _, i := range places {
		out = append(out, copied(rising[i]))
	}
	return out
}

// behind is the mark of an entry.
func behind(e api.Entry) api.Mark { return api.Mark{Has: true, Entry: e} }

// turned is a list, or, if desc, the other way round, in memory of its own.
func turned(list []api.Entry, desc bool) []api.Entry {
	out := slices.Clone(list)
	if desc {
		slices.Reverse(out)
	}
	return out
}

// left are, of entries in an order, those that come behind a mark.
func left(list []api.Entry, desc bool, after api.Mark) []api.Entry {
	return slices.DeleteFunc(slices.Clone(list), func(e api.Entry) bool {
		n := record.Compare(after.Entry, e)
		return after.Has && (n == 0 || (n > 0) != desc)
	})
}

// asksAll asks whether of an engine that has just these, which rise, a question is answered so, either way round, behind a mark, for each n.
func asksAll(t *testing.T, g *stream.Engine, ask any, after api.Mark, kept []api.Entry) {
	t.Helper()
	for _, desc := range []bool{false, true} {
		want := left(turned(kept, desc), desc, after)
		for n := range len(want) {
			asks(t, g, ask, after, desc, n, want[:n], false)
		}
		for _, n := range []int{len(want), len(want) + 1, len(want) + 1000, math.MaxInt} {
			asks(t, g, ask, after, desc, n, want, true)
		}
		for _, n := range []int{-1, -50, math.MinInt} {
			asks(t, g, ask, after, desc, n, nil, len(want) == 0)
		}
	}
}

func TestP14_1_RisingRises(t *testing.T) {
	for i, e := range rising[1:] {
		if record.Compare(rising[i], e) >= 0 || !record.Good(e) {
			t.Errorf("place %d", i+1)
		}
	}
	for _, q := range questions() {
		if want := kept(q.ask, rising); !allSame(at(q.kept), want) {
			t.Errorf("%s: %s, not %s", asked(q.ask), text(at(q.kept)), text(want))
		}
	}
}

// The first ones, however many, behind a mark: a few spelt out.
func TestP14_1_AskFew(t *testing.T) {
	a, b, c := entry(1, "q", "app", "x"), entry(2, "q", "app", "x", "env", "y"), entry(3, "", "app", "x")
	other := entry(2, "q", "app", "y")
	g := engine(b, c, a, other, entry(9, ""))
	for _, x := range []struct {
		mark api.Mark
		desc bool
		n    int
		want []api.Entry
		all  bool
	}{
		// Without a mark, from the first one on, whatever entry stands beside.
		{api.Mark{}, false, 2, []api.Entry{a, b}, false}, {api.Mark{Entry: b}, false, 2, []api.Entry{a, b}, false}, {api.Mark{Entry: c}, false, 3, []api.Entry{a, b, c}, true}, {api.Mark{Entry: a}, true, 3, []api.Entry{c, b, a}, true}, {api.Mark{}, true, 1, []api.Entry{c}, false},
		// Behind one that is there, asked for or not.
		{behind(a), false, 1, []api.Entry{b}, false}, {behind(b), false, 1, []api.Entry{c}, true}, {behind(c), false, 1, nil, true}, {behind(c), true, 1, []api.Entry{b}, false}, {behind(b), true, 1, []api.Entry{a}, true}, {behind(a), true, 1, nil, true}, {behind(other), false, 9, []api.Entry{c}, true}, {behind(other), true, 9, []api.Entry{b, a}, true}, {behind(entry(9, "")), false, 9, nil, true}, {behind(entry(9, "")), true, 2, []api.Entry{c, b}, false},
		// Between two, which differ from it in the time, in a label, in the line.
		{behind(entry(2, "p", "app", "x", "env", "y")), false, 9, []api.Entry{b, c}, true}, {behind(entry(2, "r", "app", "x", "env", "y")), false, 9, []api.Entry{c}, true}, {behind(entry(2, "z", "app", "x")), false, 9, []api.Entry{b, c}, true}, {behind(entry(2, "z", "app", "x")), true, 9, []api.Entry{a}, true}, {behind(entry(2, "", "app", "x", "env", "z")), true, 9, []api.Entry{b, a}, true}, {behind(entry(2, "z")), true, 9, []api.Entry{a}, true},
		// Ahead of all, behind all.
		{behind(entry(0, "")), false, 2, []api.Entry{a, b}, false}, {behind(api.Entry{}), false, 3, []api.Entry{a, b, c}, true}, {behind(entry(99, "")), false, 2, nil, true}, {behind(entry(99, "")), true, 2, []api.Entry{c, b}, false}, {behind(api.Entry{}), true, 2, nil, true},
		// None, and that is all just if none is left.
		{api.Mark{}, false, 0, nil, false}, {behind(b), false, 0, nil, false}, {behind(c), false, 0, nil, true}, {behind(b), false, -1, nil, false}, {behind(c), false, -1, nil, true}, {behind(b), true, 0, nil, false}, {behind(a), true, 0, nil, true}, {behind(a), true, math.MinInt, nil, true},
	} {
		asks(t, g, always(is("app", "x")), x.mark, x.desc, x.n, x.want, x.all)
	}
}

// marks are none, though an entry stands beside, and each entry of rising.
func marks() []api.Mark {
	out := []api.Mark{{}, {Entry: rising[9]}}
	for _, e := range rising {
		out = append(out, behind(copied(e)))
	}
	return out
}

// Each question, behind none and each entry (that it asks for, or not), either way round, by each n.
func TestP14_1_AskBehindEach(t *testing.T) {
	g := engine(at([]int{7, 3, 14, 0, 9, 1, 5, 12, 11, 2, 13, 4, 10, 8, 6})...)
	for _, q := range questions() {
		for _, after := range marks() {
			asksAll(t, g, q.ask, after, at(q.kept))
		}
	}
}

// Engines that have some of rising's entries, any, behind each of all: so a mark is among them, between two, ahead of all and behind all.
func TestP14_1_AskOfAllSets(t *testing.T) {
	const from, most = 3, 12
	for some := range 1 << (most - from) {
		var list []api.Entry
		for i := from; i < most; i++ {
			if some>>(i-from)&1 == 1 {
				list = append(list, rising[i])
			}
		}
		g := engine(turned(list, some%2 == 1)...)
		has(t, g, list...)
		for _, after := range marks() {
			for _, q := range []api.StreamAsk{always(), always(is("app", "x")), flows(0, 1, isnt("app", ""), is("env", ""))} {
				asksAll(t, g, q, after, kept(q, list))
			}
		}
	}
}

// Marks of entries that can't be are behind, and ahead, of which the order says.
func TestP14_1_AskBehindWhatCantBe(t *testing.T) {
	g := engine(rising...)
	for _, c := range []struct {
		mark  api.Entry
		place int
	}{
		{entry(math.MinInt, "z"), 0}, {entry(-6, "\n", "z", "z"), 0}, {entry(-5, "a\n"), 0}, {entry(-5, "b\n"), 1}, {entry(1, "\n"), 2}, {entry(1, "a\n"), 3}, {entry(1, "a", "", ""), 3}, {entry(1, "", "b", "", "a", ""), 10}, {entry(1, "b", "app", "x", "app", "x"), 7}, {entry(1, strings.Repeat("b", 5000), "app", "x"), 7},
		{entry(1, "", "\xff", ""), 11}, {entry(2, "a", "env", "y", "env", "y", "f", "", "g", "", "h", ""), 13}, {entry(10, "-\n"), 15}, {entry(math.MaxInt, ""), 15},
	} {
		asks(t, g, always(), behind(c.mark), false, math.MaxInt, rising[c.place:], true)
		asks(t, g, always(), behind(c.mark), true, math.MaxInt, turned(rising[:c.place], true), true)
		for _, q := range questions() {
			asksAll(t, g, q.ask, behind(c.mark), at(q.kept))
		}
	}
}

// orders are all orders of so many places.
func orders(n int) [][]int {
	if n == 0 {
		return [][]int{nil}
	}
	var out [][]int
	for _, one := range orders(n - 1) {
		for i := range n {
			out = append(out, slices.Insert(slices.Clone(one), i, n-1))
		}
	}
	return out
}

// In whatever order entries are added, and whatever is asked between, what is answered is the same: that of the entries that were added up to then.
func TestP14_1_AddedInEveryOrder(t *testing.T) {
	list := at([]int{0, 5, 6, 8, 11, 13})
	for _, order := range orders(len(list)) {
		g, quiet := stream.New(), stream.New()
		var had []api.Entry
		for _, i := range order {
			g.Add(list[i])
			quiet.Add(list[i])
			had = record.Sort(false, append(had, list[i])...)
			for _, q := range questions()[:14] {
				some := kept(q.ask, had)
				asks(t, g, q.ask, api.Mark{}, false, 2, some[:min(2, len(some))], len(some) <= 2)
				asks(t, g, q.ask, api.Mark{}, true, 9, turned(some, true), true)
			}
			g.Add(list[order[0]])
			g.Ask(always(is("new", "one")), behind(list[i]), true, 1)
			g.Ask(api.ScanAsk{}, behind(list[i]), true, 1)
			has(t, g, had...)
		}
		has(t, quiet, list...)
		for _, q := range questions() {
			asks(t, quiet, q.ask, api.Mark{}, false, 9, kept(q.ask, list), true)
		}
	}
}

// strewn are entries of few times, labels and lines, in any order, some often.
func strewn(r *rand.Rand, n int) []api.Entry {
	lines := []string{"", "a", "b", "a b", "\xff"}
	labels := [][]string{nil, nil, {"app", ""}, {"app", "x"}, {"app", "x"}, {"app", "y"}, {"app", "x", "env", "y"}, {"env", ""}, {"a", "\n", "app", "x", "b", "", "env", "y"}}
	var out []api.Entry
	for range n {
		out = append(out, entry(r.Intn(9)-4, lines[r.Intn(len(lines))], labels[r.Intn(len(labels))]...))
	}
	return out
}

// anyAsk is any question of few times and matchers.
func anyAsk(r *rand.Rand) api.StreamAsk {
	names := []string{"app", "app", "env", "b", "none"}
	values := []string{"", "x", "x", "y", "z"}
	q := flows(r.Intn(12)-6, r.Intn(12)-4)
	for range r.Intn(5) {
		q.Match = append(q.Match, api.Matcher{Name: names[r.Intn(len(names))], Not: r.Intn(2) == 0, Value: values[r.Intn(len(values))]})
	}
	return q
}

// Any entries, asked for by any questions, between which some are added.
func TestP14_1_AskAny(t *testing.T) {
	r := rand.New(rand.NewSource(141))
	for range 300 {
		g := stream.New()
		var had []api.Entry
		for _, e := range strewn(r, 1+r.Intn(200)) {
			g.Add(e)
			had = record.Sort(false, append(had, e)...)
			if r.Intn(4) == 0 {
				q, desc := anyAsk(r), r.Intn(2) == 0
				after := []api.Mark{{}, behind(e), behind(had[r.Intn(len(had))]), behind(strewn(r, 1)[0])}[r.Intn(4)]
				some := left(turned(kept(q, had), desc), desc, after)
				n := r.Intn(len(some) + 2)
				asks(t, g, q, after, desc, n, some[:min(n, len(some))], n >= len(some))
			}
		}
		has(t, g, had...)
	}
}

// As many entries as a group has, and many more, of few labels.
func TestP14_1_AskOfMany(t *testing.T) {
	r := rand.New(rand.NewSource(142))
	for _, most := range []int{api.MaxEntries, 5000} {
		list := strewn(r, most*3)
		for i := range list {
			list[i].At += r.Intn(most) * 20
		}
		list = record.Sort(false, list...)[:most]
		mixed := slices.Concat(list, list[:len(list)/2])
		r.Shuffle(len(mixed), func(i, k int) { mixed[i], mixed[k] = mixed[k], mixed[i] })
		g := engine(mixed...)
		has(t, g, list...)
		for range 100 {
			q, desc := anyAsk(r), r.Intn(2) == 0
			q.From, q.To = list[r.Intn(len(list))].At+r.Intn(3)-1, list[r.Intn(len(list))].At+r.Intn(3)-1
			after := behind(list[r.Intn(len(list))])
			some := left(turned(kept(q, list), desc), desc, after)
			n := r.Intn(20)
			asks(t, g, q, after, desc, n, some[:min(n, len(some))], n >= len(some))
			asks(t, g, q, api.Mark{}, desc, math.MaxInt, turned(kept(q, list), desc), true)
		}
	}
}

// What is asked again is answered again.
func TestP14_1_AskAgain(t *testing.T) {
	g := engine(rising...)
	for range 20 {
		for _, q := range questions() {
			asks(t, g, q.ask, api.Mark{}, true, 3, turned(at(q.kept), true)[:min(3, len(q.kept))], len(q.kept) <= 3)
			asks(t, g, q.ask, behind(rising[6]), false, 50, left(at(q.kept), false, behind(rising[6])), true)
		}
	}
	has(t, g, rising...)
}
