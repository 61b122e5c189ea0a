package tree_test

import (
	"iter"
	"math/rand"
	"slices"
	"testing"

	"magpie/api"
	"magpie/tree"
)

// taken is what a walk goes over, up to most of it, and the filters with all within them, as says tells them.
func taken(all iter.Seq2[api.Filter, int], most int) ([]step, []string) {
	var out []step
	var texts []string
	for f, depth := range all {
		out, texts = append(out, step{headOf(f), depth}), append(texts, says(f))
		if len(out) == most {
			break
		}
	}
	return out, texts
}

// whole are the texts that says tells of a filter, and of all within it, in order.
func whole(f api.Filter) []string {
	out := []string{says(f)}
	for i := range f.Kids {
		out = append(out, whole(f.Kids[i])...)
	}
	return out
}

// goesOver asks whether a walk is that over a filter.
func goesOver(t *testing.T, why string, all iter.Seq2[api.Filter, int], f api.Filter) {
	t.Helper()
	got, texts := taken(all, -1)
	if !slices.Equal(got, steps(f, 0)) || !slices.Equal(texts, whole(f)) {
		t.Errorf("%s: All of %s goes over %d: %.300v", why, short(f), len(got), got)
	}
}

func TestP6_1_AllFew(t *testing.T) {
	a, b, v := word("a"), has("b"), field("k", "v")
	for _, x := range []struct {
		f    api.Filter
		want []step
	}{
		{of(api.True), []step{{head{op: 1}, 0}}},
		{api.Filter{}, []step{{head{}, 0}}},
		{v, []step{{head{5, "k", "v", 0}, 0}}},
		{of(api.Not, a), []step{{head{op: 6, kids: 1}, 0}, {head{op: 3, text: "a"}, 1}}},
		{of(api.And, a, b, v), []step{{head{op: 7, kids: 3}, 0}, {head{op: 3, text: "a"}, 1}, {head{op: 4, text: "b"}, 1}, {head{5, "k", "v", 0}, 1}}},
		{of(api.Or, of(api.Not, of(api.Not, b)), a), []step{{head{op: 8, kids: 2}, 0}, {head{op: 6, kids: 1}, 1}, {head{op: 6, kids: 1}, 2}, {head{op: 4, text: "b"}, 3}, {head{op: 3, text: "a"}, 1}}},
		{of(api.And, of(api.Or, a, b), of(api.Or, b, a)), []step{
			{head{op: 7, kids: 2}, 0}, {head{op: 8, kids: 2}, 1}, {head{op: 3, text: "a"}, 2}, {head{op: 4, text: "b"}, 2}, {head{op: 8, kids: 2}, 1}, {head{op: 4, text: "b"}, 2}, {head{op: 3, text: "a"}, 2},
		}},
	} {
		if got, _ := taken(tree.All(x.f), -1); !slices.Equal(got, x.want) {
			t.Errorf("%s: %v, not %v", short(x.f), got, x.want)
		}
		if !slices.Equal(steps(x.f, 0), x.want) {
			t.Errorf("%s: the test's own steps are wrong", short(x.f))
		}
	}
}

func TestP6_1_AllOfMany(t *testing.T) {
	for _, f := range pool() {
		goesOver(t, "pool", tree.All(f), f)
	}
	wide := of(api.And)
	for i := range 3000 {
		wide.Kids = append(wide.Kids, leaves()[i%len(leaves())])
	}
	goesOver(t, "wide", tree.All(wide), wide)
	for n := range 40 {
		for _, f := range deep(n, field("k", "v")) {
			goesOver(t, "deep", tree.All(f), f)
		}
	}
}

// grown is a filter of any kinds and parts.
func grown(r *rand.Rand, depth int) api.Filter {
	f := api.Filter{Op: r.Intn(11) - 1, Name: []string{"", "k", "9"}[r.Intn(3)], Text: []string{"", "a", "\xff"}[r.Intn(3)]}
	if depth > 0 {
		for range r.Intn(4) {
			f.Kids = append(f.Kids, grown(r, depth-1))
		}
	}
	return f
}

func TestP6_1_AllOfAny(t *testing.T) {
	r := rand.New(rand.NewSource(6))
	for range 3000 {
		f := grown(r, r.Intn(6))
		goesOver(t, "any", tree.All(f), f)
	}
}

// How deep a filter stands is told however deep that is.
func TestP6_1_AllDeep(t *testing.T) {
	const n = 500
	i := 0
	for f, depth := range tree.All(nots(n, word("a"))) {
		if depth != i || (f.Op == api.Word) != (i == n) || !tree.Filter(f, nots(n-i, word("a"))) {
			t.Fatalf("%d stands %d deep", i, depth)
		}
		i++
	}
	if i != n+1 {
		t.Errorf("%d, not %d", i, n+1)
	}
	for f, depth := range tree.All(nots(1<<15, word("a"))) {
		if f.Op != api.Not || depth != 0 {
			t.Errorf("the first one is %d, %d deep", f.Op, depth)
		}
		break
	}
}

// A walk that is left anywhere has gone over what stands ahead, and no more; and it may be gone over again.
func TestP6_1_AllLeft(t *testing.T) {
	for _, f := range slices.Concat(wide(), deep(19, word("a")), []api.Filter{{}, word("a"), of(9, of(0), of(-1, of(7)))}) {
		want, texts := steps(f, 0), whole(f)
		all := tree.All(f)
		for n := 1; n <= len(want); n++ {
			got, its := taken(all, n)
			if !slices.Equal(got, want[:n]) || !slices.Equal(its, texts[:n]) {
				t.Errorf("%s, left at %d: %v", short(f), n, got)
			}
		}
		goesOver(t, "again", all, f)
		goesOver(t, "anew", tree.All(f), f)
	}
}

// Once it is left, nothing more is told; a walk that isn't a loop's sees it.
func TestP6_1_AllTellsNothingWhenLeft(t *testing.T) {
	for _, f := range slices.Concat(wide(), deep(19, word("a"))) {
		for n := 1; n <= len(steps(f, 0)); n++ {
			told := 0
			tree.All(f)(func(api.Filter, int) bool {
				told++
				return told < n
			})
			if told != n {
				t.Errorf("%s, left at %d: %d told", short(f), n, told)
			}
		}
	}
}

// Walks go on alone, within one another too.
func TestP6_1_AllWithinAll(t *testing.T) {
	f := of(api.And, of(api.Or, word("a"), of(api.Not, has("b"))), field("k", "v"))
	all := tree.All(f)
	var outer []step
	for g, depth := range all {
		goesOver(t, "within", all, f)
		goesOver(t, "its own", tree.All(g), g)
		taken(all, 2)
		outer = append(outer, step{headOf(g), depth})
	}
	if !slices.Equal(outer, steps(f, 0)) {
		t.Errorf("%v", outer)
	}
	next, stop := iter.Pull2(all)
	other, end := iter.Pull2(all)
	defer stop()
	defer end()
	for _, want := range steps(f, 0) {
		for _, turn := range []func() (api.Filter, int, bool){next, other} {
			if g, depth, ok := turn(); !ok || (step{headOf(g), depth}) != want {
				t.Errorf("%v, %d, not %v", g, depth, want)
			}
		}
	}
}

// spoil writes into all lists of a filter.
func spoil(f api.Filter) {
	for i := range f.Kids {
		spoil(f.Kids[i])
		f.Kids[i] = api.Filter{Op: 99, Text: "spoilt"}
	}
}

// What is written into a filter behind the call, or while it is gone over, isn't seen.
func TestP6_1_AllKeepsNothing(t *testing.T) {
	for _, f := range slices.Concat(wide(), deep(4, word("a"))) {
		was, mine := copied(f), copied(f)
		all := tree.All(mine)
		spoil(mine)
		goesOver(t, "spoilt behind the call", all, was)

		mine = copied(was)
		i := 0
		for g, depth := range tree.All(mine) {
			if (step{headOf(g), depth}) != steps(was, 0)[i] || says(g) != whole(was)[i] {
				t.Errorf("spoilt within the walk: %s: %d", short(was), i)
			}
			spoil(mine)
			i++
		}
	}
}

// What is written into what a walk tells is seen nowhere else.
func TestP6_1_AllTellsNewMemory(t *testing.T) {
	for _, f := range slices.Concat(wide(), deep(4, word("a"))) {
		was := copied(f)
		all := tree.All(f)
		i := 0
		for g, depth := range all {
			if (step{headOf(g), depth}) != steps(was, 0)[i] || says(g) != whole(was)[i] {
				t.Errorf("%s: %d is spoilt", short(was), i)
			}
			spoil(g)
			i++
		}
		if i != len(steps(was, 0)) {
			t.Errorf("%s: %d, not %d", short(was), i, len(steps(was, 0)))
		}
		if says(f) != says(was) {
			t.Errorf("%s is %s now", short(was), short(f))
		}
		goesOver(t, "told spoilt", all, was)
	}
	// Lists that are one where they are handed in are several where they are told.
	one := []api.Filter{word("a"), word("b")}
	for g := range tree.All(of(api.Or, of(api.And, one...), of(api.And, one...))) {
		if g.Op == api.Or {
			g.Kids[0].Kids[0].Text = "spoilt"
			if g.Kids[1].Kids[0].Text != "a" {
				t.Error("two kids share their kids")
			}
		}
	}
	if one[0].Text != "a" {
		t.Error("what was handed in is changed")
	}
}

// Of no kids it tells none, be the list nil or empty.
func TestP6_1_AllNilAndEmptyKids(t *testing.T) {
	f := api.Filter{Op: api.And, Kids: make([]api.Filter, 0, 3)}
	goesOver(t, "empty", tree.All(f), of(api.And))
	f.Kids = nil
	goesOver(t, "nil", tree.All(f), of(api.And))
	room := []api.Filter{word("a"), word("b"), of(9)}
	f.Kids = room[:2]
	goesOver(t, "with spare room", tree.All(f), of(api.And, word("a"), word("b")))
}
