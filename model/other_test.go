package model_test

import (
	"math"
	"math/rand"
	"slices"
	"strings"
	"testing"

	"magpie/api"
	"magpie/model"
	"magpie/tree"
)

// handed is what is handed in: a query, rows, a list in order and a mark, and the whole of their lists, with the room behind, in which something stands that isn't theirs.
type handed struct {
	q       api.Query
	match   []api.Matcher
	kids    []api.Filter
	rows    [][]api.Entry
	entries []api.Entry
	list    []api.Entry
	after   api.Mark
	labels  []api.Label
}

// spare is such a one, in memory of its own, of which the query keeps four entries of two rows, in another order than they stand there.
func spare(desc bool) handed {
	h := handed{
		match:  []api.Matcher{isnt("app", "y"), is("job", ""), is("far", "off")},
		kids:   []api.Filter{not(word("b")), word("a"), word("far off")},
		labels: []api.Label{{Name: "app", Value: "x"}, {Name: "env", Value: "z"}, {Name: "far", Value: "off"}},
	}
	h.entries = []api.Entry{
		{At: 4, Labels: h.labels[:2], Line: "a"}, {At: 3, Line: "a c"}, {At: 4, Labels: h.labels[:2], Line: "a"}, {At: 2, Labels: h.labels[:1], Line: "a"}, entry(99, "far"),
		entry(3, "a c"), entry(1, "a", "env", "x"), entry(0, "a"), entry(2, "b"), entry(2, "a", "app", "y"), entry(98, "far"),
	}
	h.rows = [][]api.Entry{h.entries[:4], h.entries[5:10], h.entries[4:5]}
	h.q = api.Query{From: 1, To: 9, Match: h.match[:2], Filter: api.Filter{Op: api.And, Kids: h.kids[:2]}, Desc: desc, Limit: 3, Page: "p"}
	h.list = append(keptOfSpare(desc), entry(97, "far"), entry(96, "far"))
	h.after = behind(entry(2, "a", "app", "w"))
	return h
}

// keptOfSpare is spare's query's answer over its first two rows.
func keptOfSpare(desc bool) []api.Entry {
	return turned([]api.Entry{entry(1, "a", "env", "x"), entry(2, "a", "app", "x"), entry(3, "a c"), entry(4, "a", "app", "x", "env", "z")}, desc)
}

// equal: whether two are the same in all, room too.
func equal(a, b handed) bool {
	return tree.Same(a.q, b.q) && slices.Equal(a.match, b.match) && slices.EqualFunc(a.kids, b.kids, tree.Filter) && samePages(a.rows, b.rows) &&
		allSame(a.entries, b.entries) && allSame(a.list, b.list) && a.after.Has == b.after.Has && same(a.after.Entry, b.after.Entry) && slices.Equal(a.labels, b.labels)
}

// calls are all calls, of what is handed in, each with what it answers, entries one behind the other.
func calls() map[string]func(h handed) []api.Entry {
	first := func(list []api.Entry, _ bool) []api.Entry { return list }
	return map[string]func(h handed) []api.Entry{
		"Answer":          func(h handed) []api.Entry { return model.Answer(h.q, h.rows[:2]...) },
		"Answer of one":   func(h handed) []api.Entry { return model.Answer(h.q, h.rows[0]) },
		"Cut":             func(h handed) []api.Entry { return first(model.Cut(h.list[:4], h.q.Desc, h.after, 2)) },
		"Cut of all":      func(h handed) []api.Entry { return first(model.Cut(h.list[:4], h.q.Desc, api.Mark{}, 9)) },
		"Cut of the rest": func(h handed) []api.Entry { return first(model.Cut(h.list[:4], h.q.Desc, h.after, 9)) },
		"Cut of none":     func(h handed) []api.Entry { return first(model.Cut(h.list[:4], h.q.Desc, h.after, 0)) },
		"Page":            func(h handed) []api.Entry { return first(model.Page(h.q, h.after, h.rows[:2]...)) },
		"Page from first": func(h handed) []api.Entry { return first(model.Page(h.q, api.Mark{}, h.rows[:2]...)) },
		"Pages":           func(h handed) []api.Entry { return slices.Concat(taken(model.Pages(h.q, h.rows[:2]...), -1)...) },
		"Pages left":      func(h handed) []api.Entry { return slices.Concat(taken(model.Pages(h.q, h.rows[:2]...), 1)...) },
	}
}

// What is handed in stays as it is, room too; each call is looked at alone, so that none sets right what another one did.
func TestP11_1_HandedInIsKept(t *testing.T) {
	for _, desc := range []bool{false, true} {
		kept := keptOfSpare(desc)
		left := kept[1:]
		if desc {
			left = kept[3:]
		}
		wants := map[string][]api.Entry{
			"Answer": kept, "Answer of one": turned([]api.Entry{entry(2, "a", "app", "x"), entry(3, "a c"), entry(4, "a", "app", "x", "env", "z")}, desc), "Cut": left[:min(2, len(left))], "Cut of all": kept, "Cut of the rest": left, "Cut of none": nil,
			"Page": left, "Page from first": kept[:3], "Pages": kept, "Pages left": kept[:3],
		}
		for name, call := range calls() {
			h := spare(desc)
			if got := call(h); !allSame(got, wants[name]) {
				t.Errorf("%s, %v: %s, not %s", name, desc, text(got), text(wants[name]))
			}
			if !equal(h, spare(desc)) {
				t.Errorf("behind %s, %v: %v, not %v", name, desc, h, spare(desc))
			}
		}
	}
}

// cells are the places of a list, room too.
func cells(list []api.Entry) []*api.Entry {
	var out []*api.Entry
	room := list[:cap(list)]
	for i := range room {
		out = append(out, &room[i])
	}
	return out
}

// The lists of an answer are new memory: they share none with what was handed in, with an earlier answer, or with one another.
func TestP11_1_AnswersAreNewMemory(t *testing.T) {
	for _, desc := range []bool{false, true} {
		h := spare(desc)
		seen := map[*api.Entry]string{}
		look := func(why string, list []api.Entry) {
			t.Helper()
			for _, place := range cells(list) {
				if seen[place] != "" {
					t.Errorf("%s, %v: in memory of %s", why, desc, seen[place])
				}
				seen[place] = why
			}
		}
		look("the rows", h.entries)
		look("the list", h.list)
		pages := model.Pages(h.q, h.rows...)
		for range 2 {
			look("Answer", model.Answer(h.q, h.rows[:2]...))
			look("Answer of what is in order", model.Answer(h.q, h.list[:4]))
			for n := range 6 {
				for _, after := range []api.Mark{{}, h.after, behind(h.list[0]), behind(h.list[3])} {
					got, _ := model.Cut(h.list[:4], desc, after, n)
					look("Cut", got)
				}
			}
			got, _ := model.Page(h.q, h.after, h.rows...)
			look("Page", got)
			for page := range pages {
				look("Pages", page)
			}
			for page := range model.Pages(h.q, h.list[:4]) {
				look("Pages of what is in order", page)
			}
		}
	}
}

// spoil writes into a list, room too.
func spoil(list []api.Entry) {
	for _, place := range cells(list) {
		*place = entry(5, "spoilt")
	}
}

// What is written into an answer isn't seen in what was handed in, nor in a later answer.
func TestP11_1_WhatIsWrittenIntoAnAnswerIsntSeen(t *testing.T) {
	for _, desc := range []bool{false, true} {
		for name, call := range calls() {
			h := spare(desc)
			got := call(h)
			want := slices.Clone(got)
			spoil(got)
			_ = append(got, entry(5, "spoilt"))
			if !equal(h, spare(desc)) {
				t.Errorf("behind what was written into what %s answers: %v", name, h)
			}
			if again := call(h); !allSame(again, want) {
				t.Errorf("%s: %s, not %s", name, text(again), text(want))
			}
		}
	}
}

// What is written into a page isn't seen in those behind it, nor when they are gone over again.
func TestP11_1_WhatIsWrittenIntoAPageIsntSeen(t *testing.T) {
	for limit := 1; limit < 14; limit++ {
		q := all()
		q.Limit = limit
		want := cutUp(rising, limit)
		pages := model.Pages(q, rising)
		for range 3 {
			i := 0
			for page := range pages {
				if i >= len(want) || !allSame(page, want[i]) {
					t.Errorf("by %d: page %d is %s", limit, i, text(page))
					break
				}
				spoil(page)
				_ = append(page, entry(5, "spoilt"))
				i++
			}
			if i != len(want) {
				t.Errorf("by %d: %d pages, not %d", limit, i, len(want))
			}
		}
	}
}

// What is written into what was handed in isn't seen behind the call: in an answer, nor while pages are gone over.
func TestP11_1_HandedInIsntKept(t *testing.T) {
	ruin := func(h handed) {
		spoil(h.entries)
		spoil(h.list)
		for i := range h.rows {
			h.rows[i] = nil
		}
		for i := range h.kids {
			h.kids[i] = no()
		}
		for i := range h.match {
			h.match[i] = is("none", "none")
		}
	}
	for _, desc := range []bool{false, true} {
		for name, call := range calls() {
			h := spare(desc)
			want := call(spare(desc))
			got := call(h)
			ruin(h)
			if !allSame(got, want) {
				t.Errorf("%s: %s, not %s", name, text(got), text(want))
			}
		}
		want := cutUp(keptOfSpare(desc), 3)
		h := spare(desc)
		pages := model.Pages(h.q, h.rows[:2]...)
		ruin(h)
		goesOver(t, "written ahead", pages, want)
		h = spare(desc)
		i := 0
		for page := range model.Pages(h.q, h.rows[:2]...) {
			if i >= len(want) || !allSame(page, want[i]) {
				t.Errorf("written within: page %d is %s", i, text(page))
			}
			ruin(h)
			i++
		}
	}
}

// What a call answers hangs on what it is handed alone: not on calls ahead, nor on room.
func TestP11_1_CallsKnowNothingOfOneAnother(t *testing.T) {
	for _, c := range queries() {
		for _, other := range queries() {
			model.Answer(other.q, rising)
			taken(model.Pages(other.q, rising[:3]), 2)
			answered(t, c, []int{1, 3, 5, 8}, at([]int{8, 1}), at([]int{5, 3, 5}))
		}
	}
	room := make([]api.Entry, 0, 1000)
	for _, e := range rising {
		room = append(room, e)
		want, _ := model.Cut(slices.Clip(slices.Clone(room)), false, behind(rising[1]), 3)
		cut(t, room, false, behind(rising[1]), 3, want, len(room) <= 5)
		answered(t, query{all(), []int{0, 1, 2, 3, 4, 5, 6, 7, 8, 9, 10, 11}}, []int{0, 1, 2, 3, 4, 5, 6, 7, 8, 9, 10, 11}[:len(room)], room)
	}
}

// ends asks that all calls end; of filters that can't be, and of lists in no order, nothing else is promised.
func ends(q api.Query, list []api.Entry, after api.Mark) {
	model.Answer(q, list, list)
	model.Cut(list, q.Desc, after, q.Limit)
	model.Page(q, after, list)
	taken(model.Pages(q, list), -1)
}

func TestP11_1_OfOthersCallsEnd(t *testing.T) {
	back := turned(rising, true)
	twice := slices.Concat(rising, back, rising)
	for _, op := range []int{math.MinInt, math.MaxInt, -1, 0, 1, 2, 3, 4, 5, 6, 7, 8, 9, 10, 1 << 32} {
		for _, kids := range [][]api.Filter{nil, {}, {{}}, {yes()}, {no(), yes()}, {{Op: op}, {Op: op}}, {of(api.And), of(api.Or), of(api.Not)}} {
			for _, limit := range []int{math.MinInt, -1, 0, 1, 3, math.MaxInt} {
				for _, desc := range []bool{false, true} {
					q := api.Query{From: math.MinInt, To: math.MaxInt, Match: []api.Matcher{is("", ""), isnt("\n", "\xff")}, Filter: api.Filter{Op: op, Name: "\xff", Text: strings.Repeat("x", 300), Kids: kids}, Desc: desc, Limit: limit}
					for _, list := range [][]api.Entry{nil, rising, back, twice} {
						ends(q, list, api.Mark{})
						ends(q, list, behind(rising[5]))
						ends(q, list, behind(entry(math.MinInt, "\n")))
					}
				}
			}
		}
	}
}

func TestP11_1_OfDeepestCallsEnd(t *testing.T) {
	for _, op := range []int{api.Not, api.And, api.Or, 0, 9} {
		f := api.Filter{Op: op}
		for range 1 << 16 {
			f = of(op, f)
		}
		ends(api.Query{Filter: f, Limit: 1}, []api.Entry{{}, entry(0, "a")}, api.Mark{})
	}
}

func TestP11_1_OfListsInNoOrderCallsEnd(t *testing.T) {
	r := rand.New(rand.NewSource(16))
	for range 2000 {
		list := slices.Concat(strewn(r, rising, 1+r.Intn(3))...)
		ends(api.Query{From: -5, To: 10, Filter: yes(), Desc: r.Intn(2) == 0, Limit: r.Intn(20) - 3}, list, behind(rising[r.Intn(len(rising))]))
	}
}
