package stream_test

import (
	"math"
	"math/rand"
	"strconv"
	"testing"

	"magpie/api"
	"magpie/stream"
)

// row are entries of the same labels, in their order, at 0, 10, 20 and so on.
func row(n int, labels ...string) []api.Entry {
	var out []api.Entry
	for i := range n {
		out = append(out, entry(10*i, "q", labels...))
	}
	return out
}

// stride are a row's entries, each so many places behind the one ahead, round and round: all of them, if nothing divides both that and their number.
func stride(list []api.Entry, step int) []api.Entry {
	var out []api.Entry
	for i := range list {
		out = append(out, list[i*step%len(list)])
	}
	return out
}

// A row of the same labels, of each length, far longer than a chunk, in rising and falling order, and from the middle on either way.
func TestP14_1_RowsOfEachLength(t *testing.T) {
	for n := range 150 {
		list := row(n, "app", "x")
		middle := append(turned(list[:n/2], true), list[n/2:]...)
		for _, some := range [][]api.Entry{list, turned(list, true), middle, turned(middle, true)} {
			g := engine(some...)
			has(t, g, list...)
			asks(t, g, always(is("app", "x")), api.Mark{}, true, math.MaxInt, turned(list, true), true)
			asks(t, g, flows(10, 10*n-20), api.Mark{}, false, math.MaxInt, list[min(1, n):max(min(1, n), n-1)], true)
		}
	}
}

// Rows added by all strides.
func TestP14_1_RowsByStrides(t *testing.T) {
	for _, n := range []int{17, 31, 61, 97} {
		list := row(n, "app", "x")
		for step := 1; step < n; step++ {
			has(t, engine(stride(list, step)...), list...)
		}
	}
}

// Into a row that is as long as a chunk may be, or nearly so, some entries come in every order: ahead of it, between, behind it.
func TestP14_1_IntoRowsInEveryOrder(t *testing.T) {
	for n := 12; n < 20; n++ {
		list := row(n)
		for _, places := range [][]int{{-5, 5, 15, 75, 85, 995}, {-5, -4, -3, -2, -1, -6}, {71, 72, 73, 74, 75, 76}, {996, 994, 995, 993, 997, 992}} {
			for _, order := range orders(len(places)) {
				g := engine(list...)
				want := list
				for _, i := range order {
					e := entry(places[i], "q")
					g.Add(e)
					want = in(want, e)
				}
				has(t, g, want...)
			}
		}
	}
}

// in is a list that rises, with an entry more, in memory of its own.
func in(list []api.Entry, e api.Entry) []api.Entry {
	out := make([]api.Entry, 0, len(list)+1)
	for i, o := range list {
		if e.At < o.At {
			return append(append(out, e), list[i:]...)
		}
		out = append(out, o)
	}
	return append(out, e)
}

// Long rows, in any order, with entries that are there again: all, at once and later.
func TestP14_1_RowsTwice(t *testing.T) {
	r := rand.New(rand.NewSource(143))
	for n := 1; n < 120; n += 7 {
		list := row(n, "app", "x", "env", "y")
		g := stream.New()
		for round := range 4 {
			for _, i := range r.Perm(n) {
				g.Add(list[i])
				g.Add(list[i])
				if had := g.Len(); had > n || round > 0 && had != n {
					t.Fatalf("%d of %d entries", had, n)
				}
			}
			has(t, g, list...)
		}
	}
}

// What is asked between is answered of what is there up to then, however chunks part.
func TestP14_1_AskBetweenRows(t *testing.T) {
	const n = 61
	list := row(n, "app", "x")
	for step := 1; step < n; step += 5 {
		g := stream.New()
		var had []api.Entry
		for _, e := range stride(list, step) {
			g.Add(e)
			had = in(had, e)
			has(t, g, had...)
			q := flows(200, 400, is("app", "x"))
			asks(t, g, q, api.Mark{}, true, math.MaxInt, turned(kept(q, had), true), true)
		}
	}
}

// From and To at each of a long row's times, one ahead of it and one behind it.
func TestP14_1_RowsFromToEach(t *testing.T) {
	const n = 50
	list := row(n, "app", "x")
	for _, g := range []*stream.Engine{engine(list...), engine(turned(list, true)...), engine(stride(list, 19)...)} {
		for from := range n {
			for to := range n {
				for _, off := range []int{-1, 0, 1} {
					q := flows(10*from+off, 10*to-off)
					asks(t, g, q, api.Mark{}, false, math.MaxInt, kept(q, list), true)
				}
			}
		}
	}
}

// Rows that have far more entries of one time than a chunk has: lines and From and To tell them apart.
func TestP14_1_RowsOfOneTime(t *testing.T) {
	var list []api.Entry
	for at := range 4 {
		for i := range 40 {
			list = append(list, entry(at, strconv.Itoa(100+i), "app", "x"))
		}
	}
	r := rand.New(rand.NewSource(144))
	for range 20 {
		g := stream.New()
		for _, i := range append(r.Perm(len(list)), r.Perm(len(list))...) {
			g.Add(list[i])
		}
		has(t, g, list...)
		for from := -1; from < 5; from++ {
			for to := -1; to < 5; to++ {
				q := flows(from, to, is("app", "x"))
				asks(t, g, q, api.Mark{}, false, math.MaxInt, kept(q, list), true)
				some := left(turned(kept(q, list), true), true, behind(list[57]))
				asks(t, g, q, behind(list[57]), true, 20, some[:min(20, len(some))], len(some) <= 20)
			}
		}
	}
}

// Long rows of several labels, of the same times, among one another: each flow is told for itself, and all of them in order.
func TestP14_1_RowsAmongOneAnother(t *testing.T) {
	var list []api.Entry
	for i := range 60 {
		list = append(list, entry(i, "q"), entry(i, "q", "app", "x"), entry(i, "r", "app", "x"), entry(i, "q", "app", "x", "env", "y"), entry(i, "q", "app", "y"))
	}
	r := rand.New(rand.NewSource(145))
	g := stream.New()
	for _, i := range r.Perm(len(list)) {
		g.Add(list[i])
	}
	has(t, g, list...)
	for _, some := range [][]api.Matcher{nil, {is("app", "x")}, {is("app", "")}, {isnt("app", "")}, {is("app", "x"), is("env", "")}, {is("env", "y")}, {isnt("app", "x")}} {
		for _, q := range []api.StreamAsk{always(some...), flows(7, 43, some...), flows(20, 20, some...)} {
			for _, after := range []api.Mark{{}, behind(list[100]), behind(list[102]), behind(entry(20, "qq", "app", "x"))} {
				asksAll(t, g, q, after, kept(q, list))
			}
		}
	}
}
