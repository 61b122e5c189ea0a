package scan_test

import (
	"math"
	"math/rand"
	"slices"
	"strings"
	"testing"

	"magpie/api"
	"magpie/record"
	"magpie/scan"
)

// rising are entries in their order; most differ from the one ahead in one thing alone.
var rising = []api.Entry{
	entry(-5, "b"),
	entry(1, ""),
	entry(1, "a"),
	entry(1, "", "app", ""),
	entry(1, "a", "app", ""),
	entry(1, "a", "app", "x"),
	entry(1, "b", "app", "x"),
	entry(1, "a", "app", "x", "env", ""),
	entry(1, "a", "app", "x", "env", "y"),
	entry(1, "a", "app", "y"),
	entry(1, "a", "env", "y"),
	entry(2, "a", "app", "x", "env", "y"),
	entry(2, "a", "env", "y"),
	entry(9, "\x00\xff", "app", "x"),
	entry(10, "-"),
}

// question is one, and for which places of rising it asks.
type question struct {
	ask  api.ScanAsk
	kept []int
}

// questions ask for all, some and none.
func questions() []question {
	const most = api.MaxTime
	every := []int{0, 1, 2, 3, 4, 5, 6, 7, 8, 9, 10, 11, 12, 13, 14}
	return []question{
		{always(), every}, {times(-5, 10), every}, {times(-6, 11), every}, {times(-4, 9), every[1:14]},
		{times(1, 1), every[1:11]}, {times(0, 1), every[1:11]}, {times(-5, 1), every[:11]}, {times(-most, 1), every[:11]}, {times(2, 2), []int{11, 12}}, {times(2, 9), []int{11, 12, 13}}, {times(2, 8), []int{11, 12}}, {times(3, 9), []int{13}}, {times(2, most), every[11:]},
		{times(-5, -5), []int{0}}, {times(-99, -5), []int{0}}, {times(-most, 0), []int{0}}, {times(-5, 0), []int{0}}, {times(10, 10), []int{14}}, {times(10, most), []int{14}}, {times(9, 10), []int{13, 14}},
		// Times at which there is nothing.
		{times(0, 0), nil}, {times(-4, 0), nil}, {times(3, 8), nil}, {times(11, 99), nil}, {times(11, most), nil}, {times(-most, -6), nil}, {times(-most, -most), nil}, {times(most, most), nil},
		// To below From.
		{times(2, 1), nil}, {times(1, 0), nil}, {times(10, -5), nil}, {times(-5, -6), nil}, {times(11, -6), nil}, {times(most, -most), nil},
	}
}

// kept are, by the chapters' words alone, those of some entries for which a question asks.
func kept(ask api.ScanAsk, list []api.Entry) []api.Entry {
	var out []api.Entry
	for _, e := range list {
		if e.At >= ask.From && e.At <= ask.To {
			out = append(out, e)
		}
	}
	return out
}

// at are rising's entries at these places, in lists of their own.
func at(places []int) []api.Entry {
	var out []api.Entry
	for _, i := range places {
		out = append(out, copied(rising[i]))
	}
	return out
}

// behind is the mark of an entry.
func behind(e api.Entry) api.Mark { return api.Mark{Has: true, Entry: e} }

// turned is a list, or, if desc, the other way round, in memory of its own.
func turned(list []api.Entry, desc bool) []api.Entry {
	out := slices.Clone(list)
	if desc {
		slices.Reverse(out)
	}
	return out
}

// left are, of entries in an order, those that come behind a mark.
func left(list []api.Entry, desc bool, after api.Mark) []api.Entry {
	return slices.DeleteFunc(slices.Clone(list), func(e api.Entry) bool {
		n := record.Compare(after.Entry, e)
		return after.Has && (n == 0 || (n > 0) != desc)
	})
}

// asksAll asks whether of an engine that has just these, which rise, a question is answered so, either way round, behind a mark, for each n.
func asksAll(t *testing.T, g *scan.Engine, ask any, after api.Mark, kept []api.Entry) {
	t.Helper()
	for _, desc := range []bool{false, true} {
		want := left(turned(kept, desc), desc, after)
		for n := range len(want) {
			asks(t, g, ask, after, desc, n, want[:n], false)
		}
		for _, n := range []int{len(want), len(want) + 1, len(want) + 1000, math.MaxInt} {
			asks(t, g, ask, after, desc, n, want, true)
		}
		for _, n := range []int{-1, -50, math.MinInt} {
			asks(t, g, ask, after, desc, n, nil, len(want) == 0)
		}
	}
}

func TestP15_1_RisingRises(t *testing.T) {
	for i, e := range rising[1:] {
		if record.Compare(rising[i], e) >= 0 || !record.Good(e) {
			t.Errorf("place %d", i+1)
		}
	}
	for _, q := range questions() {
		if want := kept(q.ask, rising); !allSame(at(q.kept), want) {
			t.Errorf("%s: %s, not %s", asked(q.ask), text(at(q.kept)), text(want))
		}
	}
}

// The first ones, however many, behind a mark: a few spelt out.
func TestP15_1_AskFew(t *testing.T) {
	a, b, c := entry(2, "q"), entry(2, "q", "app", "x"), entry(3, "", "app", "x")
	g := engine(b, entry(9, ""), c, a, entry(1, "q"))
	for _, x := range []struct {
		mark api.Mark
		desc bool
		n    int
		want []api.Entry
		all  bool
	}{
		// Without a mark, from the first one on, whatever entry stands beside.
		{api.Mark{}, false, 2, []api.Entry{a, b}, false}, {api.Mark{Entry: b}, false, 2, []api.Entry{a, b}, false}, {api.Mark{Entry: c}, false, 3, []api.Entry{a, b, c}, true}, {api.Mark{Entry: a}, true, 3, []api.Entry{c, b, a}, true}, {api.Mark{}, true, 1, []api.Entry{c}, false},
		// Behind one that is there, asked for or not.
		{behind(a), false, 1, []api.Entry{b}, false}, {behind(b), false, 1, []api.Entry{c}, true}, {behind(c), false, 1, nil, true}, {behind(c), true, 1, []api.Entry{b}, false}, {behind(b), true, 1, []api.Entry{a}, true}, {behind(a), true, 1, nil, true}, {behind(entry(1, "q")), false, 9, []api.Entry{a, b, c}, true}, {behind(entry(1, "q")), true, 9, nil, true}, {behind(entry(9, "")), false, 9, nil, true}, {behind(entry(9, "")), true, 2, []api.Entry{c, b}, false},
		// Between two, which differ from it in the time, in a label, in the line.
		{behind(entry(2, "p", "app", "x")), false, 9, []api.Entry{b, c}, true}, {behind(entry(2, "r", "app", "x")), false, 9, []api.Entry{c}, true}, {behind(entry(2, "z")), false, 9, []api.Entry{b, c}, true}, {behind(entry(2, "z")), true, 9, []api.Entry{a}, true}, {behind(entry(2, "", "app", "y")), true, 9, []api.Entry{b, a}, true}, {behind(entry(2, "z", "app", "")), true, 9, []api.Entry{a}, true}, {behind(entry(3, "")), true, 9, []api.Entry{b, a}, true},
		// Ahead of all, behind all.
		{behind(entry(0, "")), false, 2, []api.Entry{a, b}, false}, {behind(api.Entry{}), false, 3, []api.Entry{a, b, c}, true}, {behind(entry(99, "")), false, 2, nil, true}, {behind(entry(99, "")), true, 2, []api.Entry{c, b}, false}, {behind(api.Entry{}), true, 2, nil, true},
		// None, and that is all just if none is left.
		{api.Mark{}, false, 0, nil, false}, {behind(b), false, 0, nil, false}, {behind(c), false, 0, nil, true}, {behind(b), false, -1, nil, false}, {behind(c), false, -1, nil, true}, {behind(b), true, 0, nil, false}, {behind(a), true, 0, nil, true}, {behind(a), true, math.MinInt, nil, true},
	} {
		asks(t, g, times(2, 3), x.mark, x.desc, x.n, x.want, x.all)
	}
}

// marks are none, though an entry stands beside, and each entry of rising.
func marks() []api.Mark {
	out := []api.Mark{{}, {Entry: rising[9]}}
	for _, e := range rising {
		out = append(out, behind(copied(e)))
	}
	return out
}

// Each question, behind none and each entry (that it asks for, or not), either way round, by each n.
func TestP15_1_AskBehindEach(t *testing.T) {
	g := engine(at([]int{7, 3, 14, 0, 9, 1, 5, 12, 11, 2, 13, 4, 10, 8, 6})...)
	for _, q := range questions() {
		for _, after := range marks() {
			asksAll(t, g, q.ask, after, at(q.kept))
		}
	}
}

// Engines that have some of rising's entries, any, behind each of all: so a mark is among them, between two, ahead of all and behind all.
func TestP15_1_AskOfAllSets(t *testing.T) {
	const from, most = 6, 15
	for some := range 1 << (most - from) {
		var list []api.Entry
		for i := from; i < most; i++ {
			if some>>(i-from)&1 == 1 {
				list = append(list, rising[i])
			}
		}
		g := engine(turned(list, some%2 == 1)...)
		has(t, g, list...)
		for _, after := range marks() {
			for _, q := range []api.ScanAsk{always(), times(1, 1), times(2, 9)} {
				asksAll(t, g, q, after, kept(q, list))
			}
		}
	}
}

// Marks of entries that can't be are behind, and ahead, of which the order says.
func TestP15_1_AskBehindWhatCantBe(t *testing.T) {
	g := engine(rising...)
	for _, c := range []struct {
		mark  api.Entry
		place int
	}{
		{entry(math.MinInt, "z"), 0}, {entry(-6, "\n", "z", "z"), 0}, {entry(-5, "a\n"), 0}, {entry(-5, "b\n"), 1}, {entry(1, "\n"), 2}, {entry(1, "a\n"), 3}, {entry(1, "a", "", ""), 3}, {entry(1, "", "b", "", "a", ""), 10}, {entry(1, "b", "app", "x", "app", "x"), 7}, {entry(1, strings.Repeat("b", 5000), "app", "x"), 7},
		{entry(1, "", "\xff", ""), 11}, {entry(2, "a", "env", "y", "env", "y", "f", "", "g", "", "h", ""), 13}, {entry(10, "-\n"), 15}, {entry(math.MaxInt, ""), 15},
	} {
		asks(t, g, always(), behind(c.mark), false, math.MaxInt, rising[c.place:], true)
		asks(t, g, always(), behind(c.mark), true, math.MaxInt, turned(rising[:c.place], true), true)
		for _, q := range questions() {
			asksAll(t, g, q.ask, behind(c.mark), at(q.kept))
		}
	}
}

// Entries at From and at To are asked for, one ahead and one behind aren't; To below From asks for none.
func TestP15_1_Times(t *testing.T) {
	const most = api.MaxTime
	some := []int{-most, -most + 1, -6, -5, -4, -1, 0, 1, 2, 3, 63, 64, most - 1, most}
	var list []api.Entry
	for _, at := range some {
		list = append(list, entry(at, ""), entry(at, "q"), entry(at, "q", "app", "x"))
	}
	g := engine(turned(list, true)...)
	for _, from := range append([]int{-2, 5, most / 2}, some...) {
		for _, to := range append([]int{-2, 5, most / 2}, some...) {
			q := times(from, to)
			for _, after := range []api.Mark{{}, behind(list[10]), behind(entry(0, "q", "app", ""))} {
				asks(t, g, q, after, false, math.MaxInt, left(kept(q, list), false, after), true)
				asks(t, g, q, after, true, math.MaxInt, left(turned(kept(q, list), true), true, after), true)
			}
		}
	}
	asks(t, g, times(-5, -4), api.Mark{}, false, 9, list[9:15], true)
	asks(t, g, times(-4, -5), api.Mark{}, false, 9, nil, true)
	asks(t, g, times(-5, -5), api.Mark{}, true, 9, turned(list[9:12], true), true)
	asks(t, g, times(-3, -2), api.Mark{}, false, 9, nil, true)
	asks(t, g, times(-most, -most), api.Mark{}, false, 9, list[:3], true)
	asks(t, g, times(most, most), api.Mark{}, false, 9, list[39:], true)
	asks(t, g, times(most, -most), api.Mark{}, false, 9, nil, true)
	asks(t, g, always(), api.Mark{}, false, 99, list, true)
}

// orders are all orders of so many places.
func orders(n int) [][]int {
	if n == 0 {
		return [][]int{nil}
	}
	var out [][]int
	for _, one := range orders(n - 1) {
		for i := range n {
			out = append(out, slices.Insert(slices.Clone(one), i, n-1))
		}
	}
	return out
}

// In whatever order entries are added, and whatever is asked between, what is answered is the same: that of the entries that were added up to then.
func TestP15_1_AddedInEveryOrder(t *testing.T) {
	list := at([]int{0, 1, 6, 8, 12, 13})
	for _, order := range orders(len(list)) {
		g, quiet := scan.New(), scan.New()
		var had []api.Entry
		for _, i := range order {
			g.Add(list[i])
			quiet.Add(list[i])
			had = record.Sort(false, append(had, list[i])...)
			for _, q := range questions() {
				some := kept(q.ask, had)
				asks(t, g, q.ask, api.Mark{}, false, 2, some[:min(2, len(some))], len(some) <= 2)
				asks(t, g, q.ask, api.Mark{}, true, 9, turned(some, true), true)
			}
			g.Add(list[order[0]])
			g.Ask(times(1, 2), behind(list[i]), true, 1)
			g.Ask(api.TokenAsk{}, behind(list[i]), true, 1)
			has(t, g, had...)
		}
		has(t, quiet, list...)
		for _, q := range questions() {
			asks(t, quiet, q.ask, api.Mark{}, false, 9, kept(q.ask, list), true)
		}
	}
}

// strewn are entries of few times, labels and lines, in any order, some often.
func strewn(r *rand.Rand, n int) []api.Entry {
	lines := []string{"", "a", "b", "a b", "\xff", "\x00\x00", "\x02\x00\x01a"}
	labels := [][]string{nil, nil, {"app", ""}, {"app", "x"}, {"app", "x"}, {"app", "y"}, {"app", "x", "env", "y"}, {"env", ""}, {"a", "\n", "app", "x", "b", "", "env", "y"}}
	var out []api.Entry
	for range n {
		out = append(out, entry(r.Intn(9)-4, lines[r.Intn(len(lines))], labels[r.Intn(len(labels))]...))
	}
	return out
}

// anyAsk is any question of few times.
func anyAsk(r *rand.Rand) api.ScanAsk { return times(r.Intn(12)-6, r.Intn(12)-4) }

// Any entries, asked for by any questions, between which some are added.
func TestP15_1_AskAny(t *testing.T) {
	r := rand.New(rand.NewSource(151))
	for range 300 {
		g := scan.New()
		var had []api.Entry
		for _, e := range strewn(r, 1+r.Intn(200)) {
			g.Add(e)
			had = record.Sort(false, append(had, e)...)
			if r.Intn(4) == 0 {
				q, desc := anyAsk(r), r.Intn(2) == 0
				after := []api.Mark{{}, behind(e), behind(had[r.Intn(len(had))]), behind(strewn(r, 1)[0])}[r.Intn(4)]
				some := left(turned(kept(q, had), desc), desc, after)
				n := r.Intn(len(some) + 2)
				asks(t, g, q, after, desc, n, some[:min(n, len(some))], n >= len(some))
			}
		}
		has(t, g, had...)
	}
}

// As many entries as a group has, and many more.
func TestP15_1_AskOfMany(t *testing.T) {
	r := rand.New(rand.NewSource(152))
	for _, most := range []int{api.MaxEntries, 1500} {
		list := strewn(r, most*3)
		for i := range list {
			list[i].At += r.Intn(most) * 20
		}
		list = record.Sort(false, list...)[:most]
		mixed := slices.Concat(list, list[:len(list)/2])
		r.Shuffle(len(mixed), func(i, k int) { mixed[i], mixed[k] = mixed[k], mixed[i] })
		g := engine(mixed...)
		has(t, g, list...)
		for range 100 {
			desc := r.Intn(2) == 0
			q := times(list[r.Intn(len(list))].At+r.Intn(3)-1, list[r.Intn(len(list))].At+r.Intn(3)-1)
			after := behind(list[r.Intn(len(list))])
			some := left(turned(kept(q, list), desc), desc, after)
			n := r.Intn(20)
			asks(t, g, q, after, desc, n, some[:min(n, len(some))], n >= len(some))
			asks(t, g, q, api.Mark{}, desc, math.MaxInt, turned(kept(q, list), desc), true)
		}
	}
}

// What is asked again is answered again.
func TestP15_1_AskAgain(t *testing.T) {
	g := engine(rising...)
	for range 20 {
		for _, q := range questions() {
			asks(t, g, q.ask, api.Mark{}, true, 3, turned(at(q.kept), true)[:min(3, len(q.kept))], len(q.kept) <= 3)
			asks(t, g, q.ask, behind(rising[6]), false, 50, left(at(q.kept), false, behind(rising[6])), true)
		}
	}
	has(t, g, rising...)
}
