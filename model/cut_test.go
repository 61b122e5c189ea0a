package model_test

import (
	"math"
	"math/rand"
	"slices"
	"strings"
	"testing"

	"magpie/api"
	"magpie/model"
)

// behind is the mark of an entry.
func behind(e api.Entry) api.Mark { return api.Mark{Has: true, Entry: e} }

// turned is a list, or, if desc, the other way round, in memory of its own.
func turned(list []api.Entry, desc bool) []api.Entry {
	out := slices.Clone(list)
	if desc {
		slices.Reverse(out)
	}
	return out
}

// cut asks whether Cut answers those, and that.
func cut(t *testing.T, list []api.Entry, desc bool, after api.Mark, n int, want []api.Entry, all bool) {
	t.Helper()
	if got, is := model.Cut(list, desc, after, n); !allSame(got, want) || is != all {
		t.Errorf("Cut of %.300s, %v, behind %v, %d: %.300s, %v; not %.300s, %v", text(list), desc, after, n, text(got), is, text(want), all)
	}
}

// cuts asks whether those entries are what comes behind a mark: so many of them for each n.
func cuts(t *testing.T, list []api.Entry, desc bool, after api.Mark, left []api.Entry) {
	t.Helper()
	for n := range len(left) {
		cut(t, list, desc, after, n, left[:n], false)
	}
	for _, n := range []int{len(left), len(left) + 1, len(left) + 2, len(left) + 1000, math.MaxInt32, math.MaxInt - 1, math.MaxInt} {
		cut(t, list, desc, after, n, left, true)
	}
	for _, n := range []int{-1, -2, -50, math.MinInt32, math.MinInt + 1, math.MinInt} {
		cut(t, list, desc, after, n, nil, len(left) == 0)
	}
}

func TestP11_1_CutFew(t *testing.T) {
	a, b, c := entry(1, "x"), entry(2, "x"), entry(3, "x")
	list, back := []api.Entry{a, b, c}, []api.Entry{c, b, a}
	for _, x := range []struct {
		list []api.Entry
		desc bool
		mark api.Mark
		n    int
		want []api.Entry
		all  bool
	}{
		// The chapter's example.
		{list, false, behind(b), 5, []api.Entry{c}, true}, {list, false, behind(b), 1, []api.Entry{c}, true},
		// Without a mark, from the first one on, whatever entry stands beside.
		{list, false, api.Mark{}, 2, []api.Entry{a, b}, false}, {list, false, api.Mark{Entry: b}, 2, []api.Entry{a, b}, false}, {list, false, api.Mark{Entry: c}, 3, list, true}, {back, true, api.Mark{Entry: b}, 1, []api.Entry{c}, false},
		// Behind one that is there.
		{list, false, behind(a), 1, []api.Entry{b}, false}, {list, false, behind(a), 2, []api.Entry{b, c}, true}, {list, false, behind(c), 1, nil, true}, {back, true, behind(c), 1, []api.Entry{b}, false}, {back, true, behind(b), 9, []api.Entry{a}, true}, {back, true, behind(a), 9, nil, true},
		// Between two, which differ from it in the time, in a label, in the line.
		{list, false, behind(entry(2, "w")), 9, []api.Entry{b, c}, true}, {list, false, behind(entry(2, "y")), 9, []api.Entry{c}, true}, {list, false, behind(entry(2, "", "app", "")), 9, []api.Entry{c}, true}, {back, true, behind(entry(2, "w")), 9, []api.Entry{a}, true}, {back, true, behind(entry(2, "y")), 9, []api.Entry{b, a}, true},
		// Ahead of all, behind all.
		{list, false, behind(entry(0, "")), 2, []api.Entry{a, b}, false}, {list, false, behind(api.Entry{}), 3, list, true}, {list, false, behind(entry(4, "")), 2, nil, true}, {back, true, behind(entry(4, "")), 2, []api.Entry{c, b}, false}, {back, true, behind(api.Entry{}), 3, nil, true},
		// None is left behind none, just if there is none.
		{list, false, api.Mark{}, 0, nil, false}, {list, false, behind(b), 0, nil, false}, {list, false, behind(c), 0, nil, true}, {list, false, behind(b), -1, nil, false}, {list, false, behind(c), -1, nil, true}, {back, true, behind(b), 0, nil, false}, {back, true, behind(a), 0, nil, true},
		{nil, false, api.Mark{}, 0, nil, true}, {nil, true, behind(b), 5, nil, true}, {[]api.Entry{}, false, api.Mark{}, -1, nil, true}, {[]api.Entry{{}}, false, api.Mark{}, 1, []api.Entry{{}}, true}, {[]api.Entry{{}}, true, behind(api.Entry{}), 1, nil, true},
	} {
		cut(t, x.list, x.desc, x.mark, x.n, x.want, x.all)
	}
}

// All lists of entries of rising, behind each entry of it (that is among them, lies between two, ahead of all or behind all), either way round.
func TestP11_1_CutOfAllLists(t *testing.T) {
	const from, most = 1, 9
	for some := range 1 << (most - from) {
		for _, desc := range []bool{false, true} {
			var places []int
			for i := from; i < most; i++ {
				if some>>(i-from)&1 == 1 {
					places = append(places, i)
				}
			}
			list := turned(at(places), desc)
			cuts(t, list, desc, api.Mark{}, list)
			for i, e := range rising {
				left := slices.DeleteFunc(slices.Clone(places), func(place int) bool { return place <= i })
				if desc {
					left = slices.DeleteFunc(slices.Clone(places), func(place int) bool { return place >= i })
				}
				cuts(t, list, desc, behind(copied(e)), turned(at(left), desc))
				cuts(t, list, desc, api.Mark{Entry: e}, list)
			}
		}
	}
}

// Marks of entries that can't be are behind, and ahead, of which the order says.
func TestP11_1_CutBehindWhatCantBe(t *testing.T) {
	for _, c := range []struct {
		mark  api.Entry
		place int
	}{
		{entry(math.MinInt, "z"), 0}, {entry(-6, "\n", "z", "z"), 0}, {entry(-5, "a\n"), 0}, {entry(-5, "b\n"), 1}, {entry(1, "\n"), 1}, {entry(1, "a\n"), 2}, {entry(1, "a", "", ""), 4}, {entry(1, "", "b", "", "a", ""), 8}, {entry(1, "b", "app", "x", "app", "x"), 6}, {entry(1, strings.Repeat("b", 5000), "app", "x"), 6},
		{entry(1, "", "\xff", ""), 9}, {entry(2, "a", "env", "y", "env", "y", "f", "", "g", "", "h", ""), 10}, {entry(11, ""), 12}, {entry(math.MaxInt, ""), 12},
	} {
		cuts(t, rising, false, behind(c.mark), rising[c.place:])
		cuts(t, turned(rising, true), true, behind(c.mark), turned(rising[:c.place], true))
	}
}

// Cut of entries that can't be, in their order.
func TestP11_1_CutOfWhatCantBe(t *testing.T) {
	list := []api.Entry{entry(math.MinInt, ""), entry(0, "\n"), entry(0, strings.Repeat("x", 5000)), entry(0, "", "", ""), entry(0, "", "b", "", "a", ""), entry(math.MaxInt, "")}
	for i, e := range list {
		cuts(t, list, false, behind(e), list[i+1:])
		cuts(t, turned(list, true), true, behind(e), turned(list[:i], true))
	}
}

func TestP11_1_CutOfMany(t *testing.T) {
	list := many()
	back := turned(list, true)
	for i, e := range list {
		for _, n := range []int{0, 1, 7, len(list)} {
			left := list[i+1:]
			cut(t, list, false, behind(e), n, left[:min(n, len(left))], n >= len(left))
			left = back[len(list)-i:]
			cut(t, back, true, behind(e), n, left[:min(n, len(left))], n >= len(left))
		}
	}
	r := rand.New(rand.NewSource(13))
	for range 2000 {
		var places []int
		for i := range list {
			if r.Intn(3) == 0 {
				places = append(places, i)
			}
		}
		var some, left []api.Entry
		mark := r.Intn(len(list))
		for _, i := range places {
			some = append(some, list[i])
			if i > mark {
				left = append(left, list[i])
			}
		}
		n := r.Intn(len(left) + 5)
		cut(t, some, false, behind(list[mark]), n, left[:min(n, len(left))], n >= len(left))
	}
}

func TestP11_1_CutOfVeryMany(t *testing.T) {
	list := lines(1 << 16)
	for _, i := range []int{0, 1, 2, 255, 1 << 8, 1<<15 - 1, 1 << 15, 1<<16 - 3, 1<<16 - 2, 1<<16 - 1} {
		cut(t, list, false, behind(list[i]), 1<<16, list[i+1:], true)
		left := list[i+1:]
		cut(t, list, false, behind(list[i]), 2, left[:min(2, len(left))], len(left) <= 2)
	}
	cut(t, list, false, api.Mark{}, 1<<16, list, true)
	cut(t, list, false, api.Mark{}, 1<<16-1, list[:1<<16-1], false)
}

// paged asks whether Page answers those, and that.
func paged(t *testing.T, q api.Query, after api.Mark, rows [][]api.Entry, want []api.Entry, all bool) {
	t.Helper()
	if got, is := model.Page(q, after, rows...); !allSame(got, want) || is != all {
		t.Errorf("Page of %v behind %v: %.300s, %v; not %.300s, %v", q, after, text(got), is, text(want), all)
	}
}

// limits are such below 1, 1, fewer than there are, as many, and more.
func limits(left int) []int {
	return []int{math.MinInt, -2, -1, 0, 1, 2, 3, left - 1, left, left + 1, 50, math.MaxInt}
}

// Each query, either way round, behind none and each entry (that it keeps, or not; that is in the rows, or not), by each limit.
func TestP11_1_PageOfAllQueries(t *testing.T) {
	places := []int{0, 1, 3, 5, 6, 7, 8, 10}
	rows := [][]api.Entry{at([]int{7, 1, 8}), nil, at([]int{1, 5, 5, 0}), at([]int{10, 8, 6, 3, 1})}
	for _, c := range queries() {
		for _, c.q.Desc = range []bool{false, true} {
			kept := placed(places, c.kept, c.q.Desc)
			for _, c.q.Limit = range limits(len(kept)) {
				n := min(max(c.q.Limit, 0), len(kept))
				paged(t, c.q, api.Mark{}, rows, at(kept[:n]), n == len(kept))
				paged(t, c.q, api.Mark{Entry: rising[7]}, rows, at(kept[:n]), n == len(kept))
				for i, e := range rising {
					left := slices.DeleteFunc(slices.Clone(kept), func(place int) bool { return place == i || (place < i) != c.q.Desc })
					n := min(max(c.q.Limit, 0), len(left))
					paged(t, c.q, behind(e), rows, at(left[:n]), n == len(left))
				}
			}
		}
	}
}

func TestP11_1_PageOfNoRows(t *testing.T) {
	for _, c := range queries() {
		for _, c.q.Limit = range limits(0) {
			for _, rows := range [][][]api.Entry{nil, {}, {nil}, {{}, nil, {}}} {
				paged(t, c.q, api.Mark{}, rows, nil, true)
				paged(t, c.q, behind(rising[3]), rows, nil, true)
			}
		}
	}
}

// Where a page goes on is what the mark says; the query's own page isn't asked.
func TestP11_1_PageIsntTheQuerys(t *testing.T) {
	for _, page := range []string{"", "p", "00", "\xff"} {
		q := all()
		q.Page, q.Limit = page, 2
		paged(t, q, api.Mark{}, [][]api.Entry{rising}, rising[:2], false)
		paged(t, q, behind(rising[4]), [][]api.Entry{rising}, rising[5:7], false)
		paged(t, q, behind(rising[10]), [][]api.Entry{rising}, rising[11:], true)
	}
}

// A limit may be more than a query's that is written.
func TestP11_1_PageOfMany(t *testing.T) {
	list := many()
	rows := strewn(rand.New(rand.NewSource(17)), list, 5)
	for _, desc := range []bool{false, true} {
		want := turned(list, desc)
		for _, n := range []int{1, 49, 50, 51, 100, 255, 256, len(list) - 1, len(list), len(list) + 1, math.MaxInt} {
			q := all()
			q.Desc, q.Limit = desc, n
			paged(t, q, api.Mark{}, rows, want[:min(n, len(want))], n >= len(want))
			left := want[60:]
			paged(t, q, behind(want[59]), rows, left[:min(n, len(left))], n >= len(left))
		}
	}
}
