package tree_test

import (
	"math"
	"slices"
	"strconv"
	"strings"
	"testing"

	"magpie/api"
	"magpie/tree"
)

// kinds are all kinds of filters.
var kinds = []int{api.True, api.False, api.Word, api.Has, api.Field, api.Not, api.And, api.Or}

// noKinds are numbers that are none.
var noKinds = []int{0, -1, 9, 10, -3, math.MinInt, math.MaxInt, 1 << 32, 1<<32 + 1, 256 + api.Word}

func of(op int, kids ...api.Filter) api.Filter { return api.Filter{Op: op, Kids: kids} }

func word(s string) api.Filter { return api.Filter{Op: api.Word, Text: s} }

func has(s string) api.Filter { return api.Filter{Op: api.Has, Text: s} }

func field(name, text string) api.Filter {
	return api.Filter{Op: api.Field, Name: name, Text: text}
}

func xs(n int) string { return strings.Repeat("x", n) }

// nots is a filter within so many nots.
func nots(n int, f api.Filter) api.Filter {
	for range n {
		f = of(api.Not, f)
	}
	return f
}

// head is what a filter is but for its kids: its kind, its texts, and how many kids it has.
type head struct {
	op         int
	name, text string
	kids       int
}

func headOf(f api.Filter) head { return head{f.Op, f.Name, f.Text, len(f.Kids)} }

// step is what All goes over at once.
type step struct {
	head
	depth int
}

// steps is what All has to go over, by the chapter: a filter itself, and then its kids, each with all within it.
func steps(f api.Filter, depth int) []step {
	out := []step{{headOf(f), depth}}
	for i := range f.Kids {
		out = append(out, steps(f.Kids[i], depth+1)...)
	}
	return out
}

// says tells a filter; of no other filter it says the same.
func says(f api.Filter) string {
	s := strconv.Itoa(f.Op) + strconv.Quote(f.Name) + strconv.Quote(f.Text) + "("
	for i := range f.Kids {
		s += says(f.Kids[i])
	}
	return s + ")"
}

// short is what says tells, as a message tells it.
func short(f api.Filter) string {
	s := says(f)
	if len(s) > 300 {
		return s[:200] + ".." + s[len(s)-80:]
	}
	return s
}

// copied is a filter that shares no memory with that one.
func copied(f api.Filter) api.Filter {
	var kids []api.Filter
	for i := range f.Kids {
		kids = append(kids, copied(f.Kids[i]))
	}
	f.Kids = kids
	return f
}

// leaves are filters without kids that can be.
func leaves() []api.Filter {
	return []api.Filter{
		of(api.True), of(api.False), word("a"), word(""), word("a-b"), word("\xff\n"), has("a"), has(""), has("\x00\n"), has(xs(2000)),
		field("k", "v"), field("k", ""), field("_", "a b"), field(xs(20), "v"), field("A9", "\n\xff"),
	}
}

// wide are filters with kids, within few others, that can be.
func wide() []api.Filter {
	many := of(api.Or)
	for i := range 100 {
		many.Kids = append(many.Kids, word(strconv.Itoa(i)))
	}
	a, b := word("a"), has("b")
	return []api.Filter{
		of(api.Not, a), of(api.Not, of(api.Not, b)), of(api.And, a, b), of(api.Or, a, b), of(api.And, a, a), of(api.Or, a, a, a), of(api.And, a, b, of(api.True), field("k", "v")),
		of(api.Or, of(api.And, a, b), of(api.And, b, a)), of(api.And, of(api.And, a, b), of(api.And, a, b)), of(api.And, of(api.Or, a, of(api.Not, b)), of(api.Not, of(api.Or, a, b)), b), many, of(api.Not, many), of(api.And, many, many),
	}
}

// deep are filters of which one stands n others deep, in several ways.
func deep(n int, f api.Filter) []api.Filter {
	first, last, within, mixed := f, f, f, f
	for i := range n {
		first = of(api.And, first, word("b"))
		last = of(api.Or, word("b"), last)
		within = of(api.And, word("b"), within, has("c"))
		switch i % 3 {
		case 0:
			mixed = of(api.Or, field("k", "v"), mixed)
		case 1:
			mixed = of(api.Not, mixed)
		case 2:
			mixed = of(api.And, mixed, has("c"), word("b"))
		}
	}
	return []api.Filter{nots(n, f), first, last, within, mixed}
}

// broken are filters that can't be, of the smallest kinds of faults, and of some more.
func broken() []api.Filter {
	a, b := word("a"), word("b")
	out := []api.Filter{
		{}, {Name: "k"}, {Text: "a"}, {Kids: []api.Filter{a}}, {Kids: []api.Filter{a, b}}, {Name: "k", Text: "v"},
		{Op: api.Word, Text: "a", Name: "k"}, {Op: api.Word, Name: "k"}, {Op: api.Has, Text: "a", Name: "k"}, {Op: api.Word, Text: "a", Kids: []api.Filter{b}}, {Op: api.Has, Text: "a", Kids: []api.Filter{b}}, {Op: api.Has, Text: "a", Kids: []api.Filter{a, b}},
		field("", "v"), field("", ""), field(xs(21), "v"), field("9", "v"), field("9a", "v"), field("a-b", "v"), field("é", "v"), field("k ", "v"), field("k\n", "v"), field("k=", "v"), field("\xff", "v"), field("a\x00", "v"),
		{Op: api.Field, Name: "k", Text: "v", Kids: []api.Filter{a}}, {Op: api.Field, Name: "k", Text: "v", Kids: []api.Filter{a, b}},
		of(api.Not), of(api.Not, a, b), of(api.Not, a, b, a), {Op: api.Not, Text: "a"}, {Op: api.Not, Name: "k", Kids: []api.Filter{a}}, {Op: api.Not, Text: "a", Kids: []api.Filter{a}},
	}
	for _, op := range []int{api.True, api.False} {
		out = append(out, api.Filter{Op: op, Name: "k"}, api.Filter{Op: op, Text: "a"}, of(op, a), of(op, a, b))
	}
	for _, op := range []int{api.And, api.Or} {
		out = append(out, of(op), of(op, a), of(op, of(op, a, b)))
		out = append(out, api.Filter{Op: op, Name: "k", Kids: []api.Filter{a, b}}, api.Filter{Op: op, Text: "a", Kids: []api.Filter{a, b}})
	}
	for _, op := range noKinds {
		out = append(out, of(op), api.Filter{Op: op, Text: "a"}, api.Filter{Op: op, Name: "k", Text: "v"}, of(op, a), of(op, a, b))
	}
	return out
}

// pool are filters of all kinds, such that can be and such that can't.
func pool() []api.Filter {
	out := slices.Concat(leaves(), wide(), broken())
	for _, n := range []int{17, 18, 19, 20} {
		out = append(out, deep(n, word("a"))...)
		out = append(out, deep(n, of(9))...)
	}
	for _, f := range broken() {
		out = append(out, of(api.Not, f), of(api.And, f, f), of(api.Or, word("a"), f), of(0, f))
	}
	return out
}

func good(t *testing.T, f api.Filter, want bool) {
	t.Helper()
	if tree.Good(f) != want {
		t.Errorf("Good of %s is %v", short(f), !want)
	}
}

func TestP6_1_Kinds(t *testing.T) {
	for i, op := range kinds {
		if op != i+1 {
			t.Errorf("kind %d is %d", i+1, op)
		}
	}
}

func TestP6_1_GoodFew(t *testing.T) {
	for _, f := range slices.Concat(leaves(), wide()) {
		good(t, f, true)
	}
	for _, f := range broken() {
		good(t, f, false)
	}
}

// row is a row of the chapter's table: which parts a kind has, and how many kids at least, and at most.
type row struct {
	name, text  bool
	least, most int
}

// table is the chapter's table, by kinds.
var table = map[int]row{
	1: {}, 2: {}, 3: {text: true}, 4: {text: true}, 5: {name: true, text: true},
	6: {least: 1, most: 1}, 7: {least: 2, most: math.MaxInt}, 8: {least: 2, most: math.MaxInt},
}

// can tells by the table whether a filter whose kids can be is one.
func (r row) can(name, text string, kids int) bool {
	if r.name != (name == "k" || name == "_9") || !r.name && name != "" {
		return false
	}
	return (r.text || text == "") && r.least <= kids && kids <= r.most
}

// All filters of some parts, with kids that can be.
func TestP6_1_GoodAllParts(t *testing.T) {
	for op := -2; op <= 12; op++ {
		for _, name := range []string{"", "k", "_9", "9", "-", "k k"} {
			for _, text := range []string{"", "a", " ", "\n", "\xff"} {
				for kids := range 6 {
					f := api.Filter{Op: op, Name: name, Text: text}
					for i := range kids {
						f.Kids = append(f.Kids, leaves()[i*2])
					}
					r, is := table[op]
					good(t, f, is && r.can(name, text, kids))
				}
			}
		}
	}
}

func TestP6_1_GoodNames(t *testing.T) {
	for n := range 30 {
		good(t, field(xs(n), "v"), 1 <= n && n <= 20)
		good(t, field("_"+strings.Repeat("9", n), "v"), n < 20)
	}
	for c := range 256 {
		s := string([]byte{byte(c)})
		letter := 'a' <= c && c <= 'z' || 'A' <= c && c <= 'Z' || c == '_'
		digit := '0' <= c && c <= '9'
		good(t, field(s, ""), letter)
		good(t, field("a"+s, ""), letter || digit)
		good(t, word(s), true)
		good(t, has("a"+s), true)
		good(t, field("k", s), true)
	}
}

func TestP6_1_GoodHowManyKids(t *testing.T) {
	var kids []api.Filter
	for n := range 120 {
		good(t, of(api.True, kids...), n == 0)
		good(t, of(api.False, kids...), n == 0)
		good(t, of(api.Not, kids...), n == 1)
		good(t, of(api.And, kids...), n >= 2)
		good(t, of(api.Or, kids...), n >= 2)
		f := word("a")
		f.Kids = kids
		good(t, f, n == 0)
		f.Op = api.Has
		good(t, f, n == 0)
		f = field("k", "v")
		f.Kids = kids
		good(t, f, n == 0)
		kids = append(kids, word("b"))
	}
}

func TestP6_1_GoodDepth(t *testing.T) {
	for n := range 26 {
		for _, f := range leaves() {
			for _, g := range deep(n, f) {
				good(t, g, n <= 18)
			}
		}
		// An innermost one that has kids stands less deep than these.
		for _, g := range deep(n, of(api.And, word("a"), word("b"))) {
			good(t, g, n <= 17)
		}
	}
	for _, n := range []int{100, 1000, 1 << 16} {
		good(t, nots(n, word("a")), false)
	}
}

// How deep one stands hangs on what it stands within, not on what stands beside it.
func TestP6_1_GoodDepthOfOthersBeside(t *testing.T) {
	d18, d17, d16 := nots(18, word("a")), nots(17, word("a")), nots(16, word("a"))
	for _, f := range []api.Filter{
		of(api.And, d17, d17, d17), of(api.Or, word("b"), d17), of(api.Or, d17, word("b")), of(api.Not, of(api.And, d16, d16)), of(api.And, of(api.Or, d16, d16), d17, d17), d18,
	} {
		good(t, f, true)
	}
	for _, f := range []api.Filter{
		of(api.And, d18, d17, d17), of(api.And, d17, d18, d17), of(api.And, d17, d17, d18), of(api.Not, d18), of(api.Not, of(api.And, d16, d17)), of(api.And, of(api.Or, d16, d17), d17), of(api.And, d17, of(api.Or, d17, d16)),
	} {
		good(t, f, false)
	}
}

// within are filters that have one at the depth n, as only kid, as first one, within, and as last one, all else of which can be.
func within(n int, f api.Filter) []api.Filter {
	a, b := word("a"), has("b")
	if n == 0 {
		return []api.Filter{f}
	}
	var out []api.Filter
	for _, g := range []api.Filter{
		of(api.Not, f), of(api.And, f, a), of(api.And, a, f), of(api.Or, a, f, b), of(api.Or, f, a, b), of(api.Or, a, b, f),
	} {
		out = append(out, deep(n-1, g)...)
	}
	return out
}

func TestP6_1_GoodOneThatCannotBeAtEachDepth(t *testing.T) {
	for n := range 19 {
		for _, f := range broken() {
			for _, g := range within(n, f) {
				good(t, g, false)
			}
		}
		for _, f := range leaves() {
			for _, g := range within(n, f) {
				good(t, g, true)
			}
		}
	}
}

// Each part of each filter within another counts: without it, or with one more, none can be.
func TestP6_1_GoodHangsOnEachPart(t *testing.T) {
	f := of(api.And, of(api.Or, word("a"), of(api.Not, has("b"))), field("k", "v"), of(api.Not, of(api.True)), of(api.False))
	good(t, f, true)
	turns := []func(f *api.Filter){
		func(f *api.Filter) { f.Op = 0 },
		func(f *api.Filter) { f.Op = 9 },
		func(f *api.Filter) { f.Op = -f.Op },
		func(f *api.Filter) { f.Name += "-" },
		func(f *api.Filter) { f.Kids = append(f.Kids, of(0)) },
		func(f *api.Filter) { f.Kids = append([]api.Filter{of(9)}, f.Kids...) },
	}
	for i := range tree.Count(f) {
		for _, turn := range turns {
			g := copied(f)
			turn(at(&g, i))
			good(t, g, false)
		}
	}
	good(t, f, true)
}

// at is where the filter stands that All goes over as the i-th, from 0 on; nil: there are fewer.
func at(f *api.Filter, i int) *api.Filter {
	if i == 0 {
		return f
	}
	i--
	for k := range f.Kids {
		if n := len(steps(f.Kids[k], 0)); i >= n {
			i -= n
			continue
		}
		return at(&f.Kids[k], i)
	}
	return nil
}

func TestP6_1_GoodNilAndEmptyKids(t *testing.T) {
	for _, f := range pool() {
		if len(f.Kids) > 0 {
			continue
		}
		f.Kids = nil
		g := f
		g.Kids = make([]api.Filter, 0, 3)
		if tree.Good(f) != tree.Good(g) {
			t.Errorf("%s: Good says otherwise of no kids", short(f))
		}
	}
	// What stands in the spare room is no kid.
	room := []api.Filter{word("a"), word("b"), of(9)}
	good(t, of(api.And, room[:2]...), true)
	good(t, of(api.And, room[:1]...), false)
	good(t, of(api.Not, room[:1]...), true)
	good(t, of(api.True, room[:0]...), true)
}

func TestP6_1_Count(t *testing.T) {
	a := word("a")
	for _, x := range []struct {
		f api.Filter
		n int
	}{
		{api.Filter{}, 1}, {a, 1}, {of(api.Not, a), 2}, {of(api.And, a, a), 3}, {of(api.Or, a, a, a), 4}, {nots(18, a), 19}, {nots(19, a), 20}, {nots(1<<16, a), 1<<16 + 1},
		{of(api.And, of(api.Not, a), of(api.Or, a, a)), 6}, {of(9, of(0), of(-1, of(7))), 4}, {of(api.Word, a), 2},
	} {
		if n := tree.Count(x.f); n != x.n {
			t.Errorf("Count of %s is %d, not %d", short(x.f), n, x.n)
		}
	}
	for n := range 200 {
		if got := tree.Count(of(api.And, slices.Repeat([]api.Filter{a}, n)...)); got != n+1 {
			t.Errorf("Count of %d kids is %d", n, got)
		}
	}
}

func TestP6_1_CountIsHowManyAllGoesOver(t *testing.T) {
	for _, f := range pool() {
		n := 0
		for range tree.All(f) {
			n++
		}
		if tree.Count(f) != n || n != len(steps(f, 0)) {
			t.Errorf("Count of %s is %d, not %d", short(f), tree.Count(f), n)
		}
	}
}

// Filters and queries stay as they were, spare room included, and the calls answer the same again.
func TestP6_1_FiltersStay(t *testing.T) {
	for _, f := range pool() {
		was := copied(f)
		room := append(slices.Clone(f.Kids), has("room"))
		f.Kids = room[:len(f.Kids)]
		q := api.Query{Filter: f, Match: []api.Matcher{{Name: "k"}, {Name: "room"}}[:1]}
		first := []bool{tree.Good(f), tree.Filter(f, was), tree.Same(q, q)}
		n := tree.Count(f)
		for g := range tree.All(f) {
			_ = append(g.Kids, has("more"))
		}
		if !slices.Equal(first, []bool{tree.Good(f), tree.Filter(f, was), tree.Same(q, q)}) || tree.Count(f) != n {
			t.Errorf("%s: not the same when asked again", short(f))
		}
		if says(f) != says(was) || says(room[len(room)-1]) != says(has("room")) || q.Match[:2][1].Name != "room" {
			t.Errorf("%s is %s now", short(was), short(f))
		}
	}
}
