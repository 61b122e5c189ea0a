package norm_test

import (
	"math/rand"
	"slices"
	"testing"

	"magpie/api"
	"magpie/norm"
	"magpie/tree"
)

// kidOf is the place of the first kid of that kind, or -1.
func kidOf(op int, kids []api.Filter) int {
	return slices.IndexFunc(kids, func(kid api.Filter) bool { return kid.Op == op })
}

// turn takes one of the chapter's sentences on a filter itself; false: none is of it.
func turn(f api.Filter) (api.Filter, bool) {
	switch f.Op {
	case api.Not:
		if kid := f.Kids[0]; kid.Op < api.Word || kid.Op > api.Field {
			return turnNot(kid), true
		}
	case api.And:
		return turnRow(f, api.False, api.True)
	case api.Or:
		return turnRow(f, api.True, api.False)
	}
	return f, false
}

// turnNot is what Not of a filter is, where it isn't itself.
func turnNot(kid api.Filter) api.Filter {
	if kid.Op == api.Not {
		return kid.Kids[0]
	}
	var turned []api.Filter
	for _, k := range kid.Kids {
		turned = append(turned, not(k))
	}
	return of(map[int]int{api.True: api.False, api.False: api.True, api.And: api.Or, api.Or: api.And}[kid.Op], turned...)
}

// turnRow takes one step on a row that one kind of kids ends, and another one is left out of.
func turnRow(f api.Filter, ends, out int) (api.Filter, bool) {
	kids := slices.Clone(f.Kids)
	if i := kidOf(ends, kids); i >= 0 {
		return kids[i], true
	}
	if i := kidOf(f.Op, kids); i >= 0 {
		return of(f.Op, slices.Replace(kids, i, i+1, kids[i].Kids...)...), true
	}
	if i := kidOf(out, kids); i >= 0 {
		return of(f.Op, slices.Delete(kids, i, i+1)...), true
	}
	if len(kids) == 0 {
		return of(out), true
	}
	return kids[0], len(kids) == 1
}

// step takes one step on a filter, or on the first within it of which a sentence is; false: there is none.
func step(f api.Filter) (api.Filter, bool) {
	if g, ok := turn(f); ok {
		return g, true
	}
	for i, kid := range f.Kids {
		if g, ok := step(kid); ok {
			f.Kids = slices.Clone(f.Kids)
			f.Kids[i] = g
			return f, true
		}
	}
	return f, false
}

// wanted is a filter's plain form: what it is when no step is left.
func wanted(f api.Filter) api.Filter {
	for {
		g, ok := step(f)
		if !ok {
			return f
		}
		f = g
	}
}

// small are all filters that are n filters in all, of these leaves.
func small(n int, leaves []api.Filter) []api.Filter {
	if n == 1 {
		return leaves
	}
	var out []api.Filter
	for _, f := range small(n-1, leaves) {
		out = append(out, not(f))
	}
	for _, kids := range rows(n-1, leaves) {
		if len(kids) > 1 {
			out = append(out, and(kids...), or(kids...))
		}
	}
	return out
}

// rows are all rows of filters that are n filters in all, of these leaves.
func rows(n int, leaves []api.Filter) [][]api.Filter {
	if n == 0 {
		return [][]api.Filter{nil}
	}
	var out [][]api.Filter
	for first := 1; first <= n; first++ {
		rest := rows(n-first, leaves)
		for _, f := range small(first, leaves) {
			for _, kids := range rest {
				out = append(out, append([]api.Filter{f}, kids...))
			}
		}
	}
	return out
}

// every asks of all filters that are at most n filters in all, of these leaves, whether they become what the chapter's sentences make of them.
func every(t *testing.T, n int, leaves ...api.Filter) {
	t.Helper()
	for size := 1; size <= n; size++ {
		all := small(size, leaves)
		if len(all) == 0 {
			t.Fatalf("no filters that are %d", size)
		}
		for _, f := range all {
			if got, want := norm.Filter(f), wanted(f); !tree.Filter(got, want) {
				t.Fatalf("%s: %s, not %s", short(f), short(got), short(want))
			}
		}
	}
}

func TestP10_1_EverySmallFilter(t *testing.T) {
	every(t, 6, yes(), no(), word("a"), has("b"), field("k", "v"))
	every(t, 7, yes(), no(), word("a"))
	every(t, 8, no(), word("a"))
	every(t, 8, yes(), has("a"))
}

func pick[T any](r *rand.Rand, list []T) T { return list[r.Intn(len(list))] }

// some is a filter that can be, of which nothing stands deeper than so; True and False stand there as often as asked.
func some(r *rand.Rand, depth int, edges int) api.Filter {
	if depth == 0 || r.Intn(8) == 0 {
		if r.Intn(100) < edges {
			return of(api.True + r.Intn(2))
		}
		return pick(r, alone())
	}
	op := api.Not + r.Intn(3)
	if op == api.Not {
		return not(some(r, depth-1, edges))
	}
	f := of(op)
	for range 2 + r.Intn(3) {
		f.Kids = append(f.Kids, some(r, depth-1, edges))
	}
	return f
}

// Any filters become what the chapter's sentences make of them, with few, some and many of True and False in them.
func TestP10_1_AnyFilters(t *testing.T) {
	r := rand.New(rand.NewSource(10))
	for _, edges := range []int{0, 2, 10, 50, 100} {
		for range 1000 {
			f := some(r, r.Intn(6), edges)
			answers(t, f, wanted(f))
		}
	}
}
