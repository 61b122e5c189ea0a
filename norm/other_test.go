package norm_test

import (
	"math"
	"math/rand"
	"slices"
	"strings"
	"testing"

	"magpie/api"
	"magpie/norm"
	"magpie/tree"
)

// ends asks that all calls end; of filters that can't be nothing else is promised.
func ends(f api.Filter) {
	norm.Filter(f)
	q := api.Query{Match: []api.Matcher{is("\n", "\xff"), {}, {}}, Filter: f, Page: "\xff"}
	norm.Query(q)
	norm.Key(q)
}

func TestP10_1_OfOthersCallsEnd(t *testing.T) {
	for _, op := range []int{math.MinInt, math.MaxInt, -1, 0, 1, 2, 3, 4, 5, 6, 7, 8, 9, 10, 1 << 32, 1<<32 + api.Not} {
		for _, kids := range [][]api.Filter{nil, {}, {{}}, {yes()}, {no(), yes()}, {{Op: op}, {Op: op}}, {and(), or(), of(api.Not)}, {and(or(not(and(of(api.Not)))))}} {
			for _, text := range []string{"", "a", " ", "\xff", "\n", strings.Repeat("x", 5000)} {
				f := api.Filter{Op: op, Name: text, Text: text, Kids: kids}
				ends(f)
				ends(not(f))
				ends(and(f, f))
				ends(or(f))
			}
		}
	}
}

func TestP10_1_OfDeepestCallsEnd(t *testing.T) {
	for _, op := range []int{api.Not, api.And, api.Or, 0, 9} {
		f, g := api.Filter{Op: op}, of(op, word("a"))
		for range 1 << 16 {
			f, g = of(op, f), of(op, g)
		}
		ends(f)
		ends(g)
	}
}

// anyFilter is a filter of any kind and parts.
func anyFilter(r *rand.Rand, depth int) api.Filter {
	f := api.Filter{Op: r.Intn(12) - 1, Name: pick(r, lines), Text: pick(r, lines)}
	if depth > 0 {
		for range r.Intn(4) {
			f.Kids = append(f.Kids, anyFilter(r, depth-1))
		}
	}
	return f
}

func TestP10_1_OfAnyCallsEnd(t *testing.T) {
	r := rand.New(rand.NewSource(104))
	for range 3000 {
		ends(anyFilter(r, r.Intn(6)))
	}
}

// handed is what is handed in: a query, and the whole of its lists, with the room behind, in which something stands that isn't its own.
type handed struct {
	q           api.Query
	match       []api.Matcher
	kids, inner []api.Filter
	bare        []api.Filter
}

// spare is such a one, in memory of its own, of which a not is twice in one memory.
func spare() handed {
	h := handed{
		match: []api.Matcher{isnt("b", "z"), is("b", "y"), is("a", "x"), isnt("b", "z"), is("A", "off"), is("a", "off")},
		inner: []api.Filter{yes(), word("a"), not(has("b")), word("off"), no()},
		bare:  []api.Filter{word("off"), word("away")},
	}
	nots := not(field("k", "v"))
	leaf := word("c")
	leaf.Kids = h.bare[:0]
	h.kids = []api.Filter{{Op: api.And, Kids: h.inner[:3]}, nots, {Op: api.Or, Kids: h.inner[1:3]}, leaf, nots, word("off"), no()}
	h.q = api.Query{From: 1, To: 2, Match: h.match[:4], Filter: api.Filter{Op: api.And, Kids: h.kids[:5]}, Desc: true, Limit: 3, Page: "p"}
	return h
}

// plainOfSpare is spare's query's plain form.
func plainOfSpare() api.Query {
	a, b, nots := word("a"), not(has("b")), not(field("k", "v"))
	return api.Query{From: 1, To: 2, Match: []api.Matcher{is("a", "x"), is("b", "y"), isnt("b", "z")}, Filter: and(a, b, nots, or(a, b), word("c"), nots), Desc: true, Limit: 3}
}

// equal: whether two are the same in all, room too.
func equal(a, b handed) bool {
	return tree.Same(a.q, b.q) && slices.Equal(a.match, b.match) && slices.EqualFunc(a.kids, b.kids, tree.Filter) &&
		slices.EqualFunc(a.inner, b.inner, tree.Filter) && slices.EqualFunc(a.bare, b.bare, tree.Filter)
}

// What is handed in stays as it is, room too; each call is looked at alone, so that none sets right what another one did.
func TestP10_1_HandedInIsKept(t *testing.T) {
	for name, call := range map[string]func(q api.Query){
		"Filter": func(q api.Query) { norm.Filter(q.Filter) },
		"Not":    func(q api.Query) { norm.Filter(not(q.Filter)) },
		"First":  func(q api.Query) { norm.Filter(q.Filter.Kids[0]) },
		"Last":   func(q api.Query) { norm.Filter(q.Filter.Kids[3]) },
		"Query":  func(q api.Query) { norm.Query(q) },
		"Key":    func(q api.Query) { norm.Key(q) },
	} {
		h := spare()
		call(h.q)
		if !equal(h, spare()) {
			t.Errorf("behind %s: %v, not %v", name, h, spare())
		}
	}
}

// cells are the places of all lists of a filter, room too.
func cells(f api.Filter) []*api.Filter {
	var out []*api.Filter
	all := f.Kids[:cap(f.Kids)]
	for i := range all {
		out = append(out, &all[i])
	}
	for _, kid := range f.Kids {
		out = append(out, cells(kid)...)
	}
	return out
}

// sharesNone asks whether none of an answer's lists shares memory with another one of its own, or with others.
func sharesNone(t *testing.T, got api.Filter, others ...api.Filter) {
	t.Helper()
	seen := map[*api.Filter]bool{}
	for _, f := range others {
		for _, at := range cells(f) {
			seen[at] = true
		}
	}
	for _, at := range cells(got) {
		if seen[at] {
			t.Errorf("%s: %s is in memory that is another's", short(got), short(*at))
		}
		seen[at] = true
	}
}

// The lists of an answer are new memory: they share none with what was handed in, with an earlier answer, or with one another.
func TestP10_1_AnswersAreNewMemory(t *testing.T) {
	h := spare()
	first, second := norm.Filter(h.q.Filter), norm.Query(h.q).Filter
	sharesNone(t, first, h.q.Filter)
	sharesNone(t, second, h.q.Filter, first)
	one := []api.Filter{not(word("a")), not(has("b"))}
	for _, f := range []api.Filter{not(word("a")), and(one...), or(one...), not(and(one...)), or(and(one...), and(one...)), and(or(one...), or(one...), not(and(one...))), and(and(one...), and(one...)), and(one[0], yes()), nots(2, one[0]), nots(2, and(one...)), not(or(not(and(one...)), no())), h.kids[3]} {
		sharesNone(t, norm.Filter(f), f, norm.Filter(f))
		sharesNone(t, norm.Query(api.Query{Filter: f}).Filter, f)
	}
	r := rand.New(rand.NewSource(105))
	for range 500 {
		f := some(r, r.Intn(6), 10)
		sharesNone(t, norm.Filter(f), f, norm.Filter(f))
	}
}

// spoil writes into all lists of a query, room too.
func spoil(q api.Query) {
	for _, at := range cells(q.Filter) {
		*at = word("spoilt")
	}
	room := q.Match[:cap(q.Match)]
	for i := range room {
		room[i] = is("spoilt", "spoilt")
	}
}

// What is written into an answer isn't seen in what was handed in, nor in another answer; and the other way round.
func TestP10_1_WhatIsWrittenIsntSeen(t *testing.T) {
	h := spare()
	first, second := norm.Query(h.q), norm.Query(h.q)
	spoil(first)
	if !equal(h, spare()) {
		t.Errorf("behind what was written into an answer: %v", h)
	}
	spoil(h.q)
	if !tree.Same(second, plainOfSpare()) {
		t.Errorf("%v, not %v", second, plainOfSpare())
	}
	second.Match = append(second.Match, is("new", "new"))
	second.Filter.Kids = append(second.Filter.Kids, word("new"))
	if got := norm.Query(spare().q); !tree.Same(got, plainOfSpare()) {
		t.Errorf("%v, not %v", got, plainOfSpare())
	}
	for _, list := range [][]api.Matcher{{is("a", "x")}, {is("a", "x"), is("b", "y")}, make([]api.Matcher, 0, 3)} {
		was := slices.Clone(list)
		got := norm.Query(api.Query{Match: list, Filter: yes()})
		spoil(got)
		if !slices.Equal(list, was) || !slices.Equal(list[:cap(list)][len(list):], make([]api.Matcher, cap(list)-len(list))) {
			t.Errorf("%v is %v now", was, list[:cap(list)])
		}
	}
}
