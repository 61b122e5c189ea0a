package tree_test

import (
	"math"
	"math/rand"
	"slices"
	"strings"
	"testing"

	"magpie/api"
	"magpie/tree"
)

// held asks whether Filter answers that of two filters, either way round.
func held(t *testing.T, a, b api.Filter, want bool) {
	t.Helper()
	if tree.Filter(a, b) != want || tree.Filter(b, a) != want {
		t.Errorf("%s and %s: %v, %v, not %v", short(a), short(b), tree.Filter(a, b), tree.Filter(b, a), want)
	}
}

// Of all pairs of filters those are the same that say the same.
func TestP6_1_FilterAllPairs(t *testing.T) {
	all := slices.Concat(leaves(), wide(), broken(), deep(18, word("a")), deep(19, word("a")), deep(19, of(9)))
	for i, a := range all {
		held(t, a, a, true)
		held(t, a, copied(a), true)
		for _, b := range all[i:] {
			held(t, a, b, says(a) == says(b))
		}
	}
}

// turned are all that a filter becomes by one thing otherwise, in itself or within it.
func turned(f api.Filter) []api.Filter {
	turns := []func(f *api.Filter) bool{
		func(f *api.Filter) bool { f.Op++; return true },
		func(f *api.Filter) bool { f.Op--; return true },
		func(f *api.Filter) bool { f.Op += 256; return true },
		func(f *api.Filter) bool { f.Op += 1 << 32; return true },
		func(f *api.Filter) bool { f.Name += "x"; return true },
		func(f *api.Filter) bool { f.Text += "x"; return true },
		func(f *api.Filter) bool { f.Text = "\x00" + f.Text; return true },
		func(f *api.Filter) bool { f.Name, f.Text = f.Text, f.Name; return f.Name != f.Text },
		func(f *api.Filter) bool {
			was := f.Text
			f.Text = strings.ToUpper(was)
			return f.Text != was
		},
		func(f *api.Filter) bool { f.Kids = append(f.Kids, api.Filter{}); return true },
		func(f *api.Filter) bool { f.Kids = append([]api.Filter{word("new")}, f.Kids...); return true },
		func(f *api.Filter) bool {
			if len(f.Kids) == 0 {
				return false
			}
			f.Kids = f.Kids[:len(f.Kids)-1]
			return true
		},
		func(f *api.Filter) bool {
			if len(f.Kids) == 0 {
				return false
			}
			f.Kids = f.Kids[1:]
			return true
		},
		func(f *api.Filter) bool {
			was := says(*f)
			slices.Reverse(f.Kids)
			return says(*f) != was
		},
	}
	var out []api.Filter
	for i := range steps(f, 0) {
		for _, turn := range turns {
			g := copied(f)
			if turn(at(&g, i)) {
				out = append(out, g)
			}
		}
	}
	return out
}

func TestP6_1_FilterOneThingOtherwise(t *testing.T) {
	for _, f := range slices.Concat(leaves(), wide()[:10], deep(5, field("k", "v")), broken()) {
		for _, g := range turned(f) {
			held(t, f, g, false)
		}
		held(t, f, copied(f), true)
	}
}

func TestP6_1_FilterFew(t *testing.T) {
	a, b := word("a"), word("b")
	for _, x := range [][2]api.Filter{
		{{}, of(api.True)}, {of(api.True), of(api.False)}, {a, b}, {a, has("a")}, {word(""), {Op: api.Word, Name: "a"}}, {word("a"), word("A")}, {word("a"), word("a\x00")}, {word("\xff"), word("\ufffd")}, {word("\u00e9"), word("e\u0301")},
		{of(api.And, a, b), of(api.And, b, a)}, {of(api.And, a, b), of(api.Or, a, b)}, {of(api.And, a, b), of(api.And, a, b, b)}, {of(api.And, a, a), a}, {of(api.Not, of(api.Not, a)), a}, {of(api.And, of(api.And, a, b), a), of(api.And, a, of(api.And, b, a))},
		{of(api.And, a), of(api.And, a, a)}, {of(api.And), of(api.And, api.Filter{})}, {of(api.Not, a), of(api.Not, b)}, {field("k", "v"), field("v", "k")}, {field("k", ""), field("", "k")}, {field("ab", "c"), field("a", "bc")},
		{of(0), of(9)}, {of(math.MinInt), of(math.MaxInt)}, {of(api.Not), of(api.Not, api.Filter{})}, {nots(18, a), nots(19, a)}, {nots(19, a), nots(19, b)}, {nots(1<<16, a), nots(1<<16, b)}, {nots(1<<16, a), nots(1<<16-1, a)},
	} {
		held(t, x[0], x[1], false)
		held(t, x[0], copied(x[0]), true)
		held(t, x[1], copied(x[1]), true)
	}
}

func TestP6_1_FilterNilAndEmptyKids(t *testing.T) {
	for _, f := range slices.Concat(leaves(), broken()) {
		if len(f.Kids) > 0 {
			continue
		}
		g, h := f, f
		f.Kids, g.Kids, h.Kids = nil, []api.Filter{}, []api.Filter{word("a"), word("b")}[:0]
		held(t, f, g, true)
		held(t, g, h, true)
		held(t, of(api.Not, f), of(api.Not, h), true)
		held(t, of(api.And, word("a"), f, g), of(api.And, word("a"), h, f), true)
	}
	room := []api.Filter{word("a"), word("b"), word("c")}
	held(t, of(api.And, room[:2]...), of(api.And, word("a"), word("b")), true)
	held(t, of(api.And, room[:2]...), of(api.And, room...), false)
}

// queries are all alike but for one part of each.
func queries() []api.Query {
	one := api.Query{
		From: 1, To: 5, Match: []api.Matcher{{Name: "app", Value: "x"}, {Name: "host", Not: true, Value: "y"}},
		Filter: of(api.And, word("a"), of(api.Not, has("b"))), Desc: false, Limit: 3, Page: "p",
	}
	out := []api.Query{one}
	turns := []func(q *api.Query){
		func(q *api.Query) { q.From = 2 },
		func(q *api.Query) { q.From = -1 },
		func(q *api.Query) { q.From = 1 + 1<<40 },
		func(q *api.Query) { q.From, q.To = q.To, q.From },
		func(q *api.Query) { q.To = 6 },
		func(q *api.Query) { q.To = -5 },
		func(q *api.Query) { q.To = math.MinInt },
		func(q *api.Query) { q.Match = nil },
		func(q *api.Query) { q.Match = q.Match[:1] },
		func(q *api.Query) { q.Match = q.Match[1:] },
		func(q *api.Query) { q.Match = append(q.Match, api.Matcher{}) },
		func(q *api.Query) { q.Match = append(q.Match, q.Match[1]) },
		func(q *api.Query) { slices.Reverse(q.Match) },
		func(q *api.Query) { q.Match[0].Name = "apps" },
		func(q *api.Query) { q.Match[0].Name = "" },
		func(q *api.Query) { q.Match[0].Not = true },
		func(q *api.Query) { q.Match[0].Value = "X" },
		func(q *api.Query) { q.Match[0].Name, q.Match[0].Value = "x", "app" },
		func(q *api.Query) { q.Match[1].Name = "hos" },
		func(q *api.Query) { q.Match[1].Not = false },
		func(q *api.Query) { q.Match[1].Value = "" },
		func(q *api.Query) { q.Match[1].Value = "y\xff" },
		func(q *api.Query) { q.Filter = api.Filter{} },
		func(q *api.Query) { q.Filter = of(api.True) },
		func(q *api.Query) { q.Filter.Op = api.Or },
		func(q *api.Query) { q.Filter.Op = 9 },
		func(q *api.Query) { q.Filter.Name = "k" },
		func(q *api.Query) { q.Filter.Text = "a" },
		func(q *api.Query) { q.Filter.Kids = q.Filter.Kids[:1] },
		func(q *api.Query) { slices.Reverse(q.Filter.Kids) },
		func(q *api.Query) { q.Filter.Kids[0].Text = "b" },
		func(q *api.Query) { q.Filter.Kids[1].Kids[0].Text = "a" },
		func(q *api.Query) { q.Filter.Kids[1].Kids[0].Op = api.Word },
		func(q *api.Query) { q.Filter.Kids[1].Kids = nil },
		func(q *api.Query) { q.Filter = nots(19, word("a")) },
		func(q *api.Query) { q.Desc = true },
		func(q *api.Query) { q.Limit = 4 },
		func(q *api.Query) { q.Limit = 0 },
		func(q *api.Query) { q.Limit = -3 },
		func(q *api.Query) { q.Page = "" },
		func(q *api.Query) { q.Page = "P" },
		func(q *api.Query) { q.Page = "pp" },
		func(q *api.Query) { q.Page = "\xff" },
	}
	for _, turn := range turns {
		q := copiedQuery(one)
		turn(&q)
		out = append(out, q)
	}
	return append(out, api.Query{})
}

// copiedQuery is a query that shares no memory with that one.
func copiedQuery(q api.Query) api.Query {
	q.Match = slices.Clone(q.Match)
	q.Filter = copied(q.Filter)
	return q
}

func TestP6_1_SameAllPairs(t *testing.T) {
	all := queries()
	for i, p := range all {
		for j, q := range all {
			if tree.Same(p, copiedQuery(q)) != (i == j) {
				t.Errorf("queries %d and %d: %v", i, j, i != j)
			}
		}
	}
}

// The same are queries whatever is in them, be it such as can be, or not.
func TestP6_1_SameWhateverIsInThem(t *testing.T) {
	for _, f := range pool() {
		q := api.Query{From: math.MaxInt, To: math.MinInt, Match: slices.Repeat([]api.Matcher{{Name: "9", Value: xs(3000)}}, 7), Filter: f, Limit: -1, Page: "\xff\n"}
		if !tree.Same(q, copiedQuery(q)) {
			t.Errorf("%s: a query isn't the same as itself", short(f))
		}
		for _, g := range []api.Filter{of(api.Not, f), of(api.And, f, f), {}, of(api.False)} {
			p := copiedQuery(q)
			p.Filter = g
			if tree.Same(p, q) != (says(f) == says(g)) || tree.Same(q, p) != tree.Same(p, q) {
				t.Errorf("%s and %s", short(f), short(g))
			}
		}
	}
}

func TestP6_1_SameNilAndEmptyRows(t *testing.T) {
	p := api.Query{From: 1, Filter: of(api.And, word("a"), of(api.True))}
	q := copiedQuery(p)
	q.Match, q.Filter.Kids[1].Kids = []api.Matcher{}, []api.Filter{}
	r := copiedQuery(p)
	r.Match, r.Filter.Kids[0].Kids = []api.Matcher{{Name: "k"}}[:0], []api.Filter{word("b")}[:0]
	for _, x := range [][2]api.Query{{p, q}, {q, r}, {p, r}, {{}, {Match: []api.Matcher{}, Filter: api.Filter{Kids: []api.Filter{}}}}} {
		if !tree.Same(x[0], x[1]) || !tree.Same(x[1], x[0]) {
			t.Errorf("%v and %v", x[0], x[1])
		}
	}
}

// heads is what All goes over, of each its kind, its texts, and how many kids it has.
func heads(f api.Filter) []head {
	var out []head
	for g := range tree.All(f) {
		out = append(out, headOf(g))
	}
	return out
}

// justIf asks whether two filters are the same just if All goes over the same.
func justIf(t *testing.T, a, b api.Filter) {
	t.Helper()
	if tree.Filter(a, b) != slices.Equal(heads(a), heads(b)) {
		t.Errorf("%s and %s: Filter answers %v", short(a), short(b), tree.Filter(a, b))
	}
}

// shapes are all filters of a kind or two, and a text or two, with up to n filters in all.
func shapes(n int) []api.Filter {
	var out []api.Filter
	for size := 1; size <= n; size++ {
		for _, kids := range rows(size - 1) {
			for _, op := range []int{api.Word, api.And} {
				out = append(out, of(op, kids...))
			}
		}
	}
	return out
}

// rows are all rows of filters, of the kinds of shapes, that are n filters in all.
func rows(n int) [][]api.Filter {
	if n == 0 {
		return [][]api.Filter{nil}
	}
	var out [][]api.Filter
	for size := 1; size <= n; size++ {
		for _, kids := range rows(size - 1) {
			for _, rest := range rows(n - size) {
				for _, op := range []int{api.Word, api.And} {
					out = append(out, append([]api.Filter{of(op, kids...)}, rest...))
				}
			}
		}
	}
	return out
}

// No two of these say the same: so All has to go over each in a way of its own.
func TestP6_2_AllShapes(t *testing.T) {
	all := shapes(5)
	ways := map[string]int{}
	for i, a := range all {
		ways[says(a)]++
		for _, b := range all[:i] {
			if tree.Filter(a, b) {
				t.Errorf("%s and %s are the same", short(a), short(b))
			}
			justIf(t, a, b)
		}
		justIf(t, a, copied(a))
	}
	if len(ways) != len(all) || len(all) < 500 {
		t.Errorf("%d shapes, %d of them otherwise", len(all), len(ways))
	}
}

func TestP6_2_OneThingOtherwise(t *testing.T) {
	for _, f := range slices.Concat(leaves(), wide()[:10], deep(5, field("k", "v")), broken()) {
		for _, g := range turned(f) {
			justIf(t, f, g)
			if slices.Equal(heads(f), heads(g)) {
				t.Errorf("All goes over %s as over %s", short(f), short(g))
			}
		}
		if !slices.Equal(heads(f), heads(copied(f))) {
			t.Errorf("%s: All goes over the same otherwise", short(f))
		}
	}
}

func TestP6_2_AnyPairs(t *testing.T) {
	r := rand.New(rand.NewSource(62))
	same := 0
	for range 20000 {
		a, b := grown(r, 2), grown(r, 2)
		justIf(t, a, b)
		if tree.Filter(a, b) {
			same++
		}
	}
	if same == 0 {
		t.Error("no pair was the same: the test is too small")
	}
	// Where a kid stands tells two apart whose filters are the same, one by one.
	a, b := word("a"), word("b")
	justIf(t, of(api.And, of(api.And, a, b), a), of(api.And, of(api.And, a), b, a))
	justIf(t, of(api.And, of(api.Or, a), b), of(api.And, of(api.Or, a, b)))
	justIf(t, nots(3, of(api.And, a, b)), of(api.Not, of(api.Not, of(api.Not, of(api.And, a, b)))))
}
