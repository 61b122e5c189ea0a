package model_test

import (
	"iter"
	"math"
	"math/rand"
	"slices"
	"testing"

	"magpie/api"
	"magpie/model"
)

// taken are pages that are gone over, each as it is told then, up to most of them.
func taken(pages iter.Seq[[]api.Entry], most int) [][]api.Entry {
	var out [][]api.Entry
	for page := range pages {
		out = append(out, slices.Clone(page))
		if len(out) == most {
			break
		}
	}
	return out
}

// cutUp are the pages of an answer, by the chapter's words: the first one, and others as long as entries are left.
func cutUp(answer []api.Entry, limit int) [][]api.Entry {
	if limit < 1 {
		return [][]api.Entry{nil}
	}
	n := min(limit, len(answer))
	out := [][]api.Entry{answer[:n]}
	if n < len(answer) {
		out = append(out, cutUp(answer[n:], limit)...)
	}
	return out
}

func samePages(a, b [][]api.Entry) bool { return slices.EqualFunc(a, b, allSame) }

// goesOver asks whether pages are those.
func goesOver(t *testing.T, why string, pages iter.Seq[[]api.Entry], want [][]api.Entry) {
	t.Helper()
	got := taken(pages, -1)
	if samePages(got, want) {
		return
	}
	t.Errorf("%s: %d pages, not %d", why, len(got), len(want))
	for i := range min(len(got), len(want)) {
		if !allSame(got[i], want[i]) {
			t.Errorf("%s: page %d: %.300s, not %.300s", why, i, text(got[i]), text(want[i]))
			return
		}
	}
}

func TestP11_1_PagesFew(t *testing.T) {
	a, b, c, d := entry(1, "x"), entry(2, "x"), entry(3, "x"), entry(4, "x")
	rows := [][][]api.Entry{{{c, a, d, a, b}}, {{c, a}, nil, {d, a, b}}, {{a}, {b, b}, {c, d}, {d}}}
	for _, x := range []struct {
		filter api.Filter
		desc   bool
		limit  int
		want   [][]api.Entry
	}{
		{yes(), false, 1, [][]api.Entry{{a}, {b}, {c}, {d}}}, {yes(), false, 2, [][]api.Entry{{a, b}, {c, d}}}, {yes(), false, 3, [][]api.Entry{{a, b, c}, {d}}}, {yes(), false, 4, [][]api.Entry{{a, b, c, d}}}, {yes(), false, 5, [][]api.Entry{{a, b, c, d}}}, {yes(), false, math.MaxInt, [][]api.Entry{{a, b, c, d}}},
		{yes(), true, 1, [][]api.Entry{{d}, {c}, {b}, {a}}}, {yes(), true, 2, [][]api.Entry{{d, c}, {b, a}}}, {yes(), true, 3, [][]api.Entry{{d, c, b}, {a}}}, {yes(), true, 4, [][]api.Entry{{d, c, b, a}}}, {yes(), true, 5, [][]api.Entry{{d, c, b, a}}},
		// Of a limit below 1, and of an empty answer, there is one that is empty.
		{yes(), false, 0, [][]api.Entry{nil}}, {yes(), false, -1, [][]api.Entry{nil}}, {yes(), true, math.MinInt, [][]api.Entry{nil}},
		{no(), false, 0, [][]api.Entry{nil}}, {no(), true, -1, [][]api.Entry{nil}}, {no(), false, 1, [][]api.Entry{nil}}, {no(), true, 2, [][]api.Entry{nil}}, {no(), false, math.MaxInt, [][]api.Entry{nil}},
	} {
		q := all()
		q.Filter, q.Desc, q.Limit = x.filter, x.desc, x.limit
		for _, row := range rows {
			goesOver(t, "few", model.Pages(q, row...), x.want)
		}
	}
}

// An empty answer has one page, which is empty.
func TestP11_1_PagesOfNone(t *testing.T) {
	for _, c := range queries() {
		for _, c.q.Limit = range limits(0) {
			for _, rows := range [][][]api.Entry{nil, {}, {nil}, {{}, nil, {}}} {
				goesOver(t, "no rows", model.Pages(c.q, rows...), [][]api.Entry{nil})
			}
			if len(c.kept) == 0 {
				goesOver(t, "none is kept", model.Pages(c.q, rising, rising[3:]), [][]api.Entry{nil})
			}
		}
	}
}

// Each query, either way round, by each limit; the query's own page isn't asked.
func TestP11_1_PagesOfAllQueries(t *testing.T) {
	for _, c := range queries() {
		for _, c.q.Desc = range []bool{false, true} {
			want := at(placed(c.kept, c.kept, c.q.Desc))
			for _, c.q.Limit = range append(limits(len(want)), 4, 5, 6, 7, 11, 12, 13) {
				for _, c.q.Page = range []string{"", "p"} {
					goesOver(t, "a query", model.Pages(c.q, rising[6:], rising[:9], nil, rising[2:4]), cutUp(want, c.q.Limit))
				}
			}
		}
	}
}

// Each page is Page behind the last entry of the one ahead, and the last one is the first of which that says that it is all.
func TestP11_1_EachPageIsPage(t *testing.T) {
	r := rand.New(rand.NewSource(14))
	for _, c := range queries() {
		for range 10 {
			c.q.Limit, c.q.Desc = 1+r.Intn(5), r.Intn(2) == 0
			rows := strewn(r, rising, 1+r.Intn(4))
			pages := taken(model.Pages(c.q, rows...), -1)
			var after api.Mark
			for i, page := range pages {
				paged(t, c.q, after, rows, page, i == len(pages)-1)
				if len(page) > 0 {
					after = behind(page[len(page)-1])
				}
			}
		}
	}
}

// together asks whether pages, one behind the other, are that answer, each but the last one having as many entries as the limit, and none but the first one being empty.
func together(t *testing.T, pages [][]api.Entry, answer []api.Entry, limit int) {
	t.Helper()
	if got := slices.Concat(pages...); !allSame(got, answer) {
		t.Errorf("by %d: %.300s, not %.300s", limit, text(got), text(answer))
	}
	if len(pages) == 0 {
		t.Errorf("by %d: no page", limit)
	}
	for i, page := range pages {
		if i < len(pages)-1 && len(page) != limit || len(page) > limit || i > 0 && len(page) == 0 {
			t.Errorf("by %d: page %d of %d has %d entries", limit, i, len(pages), len(page))
		}
	}
}

func TestP11_2_PagesAreTheAnswer(t *testing.T) {
	for size := range 14 {
		for limit := 1; limit < 16; limit++ {
			for _, desc := range []bool{false, true} {
				q := all()
				q.Limit, q.Desc = limit, desc
				list := lines(size)
				pages := taken(model.Pages(q, turned(list, !desc), list), -1)
				together(t, pages, turned(list, desc), limit)
				together(t, pages, model.Answer(q, list), limit)
				if want := max((size+limit-1)/limit, 1); len(pages) != want {
					t.Errorf("%d by %d: %d pages, not %d", size, limit, len(pages), want)
				}
			}
		}
	}
}

func TestP11_2_PagesOfAllQueries(t *testing.T) {
	for _, c := range queries() {
		for _, c.q.Desc = range []bool{false, true} {
			for _, limit := range limits(len(c.kept)) {
				if limit < 1 {
					continue
				}
				c.q.Limit = limit
				together(t, taken(model.Pages(c.q, rising, rising[:5]), -1), at(placed(c.kept, c.kept, c.q.Desc)), limit)
			}
		}
	}
}

func TestP11_2_PagesOfMany(t *testing.T) {
	list := many()
	r := rand.New(rand.NewSource(15))
	for range 100 {
		q := all()
		q.Limit, q.Desc = 1+r.Intn(60), r.Intn(2) == 0
		together(t, taken(model.Pages(q, strewn(r, list, 1+r.Intn(5))...), -1), turned(list, q.Desc), q.Limit)
	}
	very := lines(1 << 15)
	for _, q := range []api.Query{all(), {To: 1 << 20, Filter: yes(), Limit: 1}, {To: 1 << 20, Filter: yes(), Limit: 1<<15 - 1}} {
		together(t, taken(model.Pages(q, very[1000:], very[:2000]), -1), very, q.Limit)
	}
}

// Pages may be left at any time, ahead of the first one's end and behind the last one's, and gone over again from the first one on.
func TestP11_2_PagesMayBeLeft(t *testing.T) {
	for _, limit := range []int{-1, 0, 1, 2, 3, 4, 11, 12, 13} {
		q := all()
		q.Limit = limit
		want := cutUp(rising, limit)
		pages := model.Pages(q, rising)
		for most := 1; most <= len(want); most++ {
			if got := taken(pages, most); !samePages(got, want[:most]) {
				t.Errorf("by %d, left behind %d: %d pages", limit, most, len(got))
			}
			told := 0
			pages(func([]api.Entry) bool { told++; return told < most })
			if told != most {
				t.Errorf("by %d, left behind %d: %d pages", limit, most, told)
			}
			goesOver(t, "again", pages, want)
		}
	}
	for range model.Pages(all()) {
		break
	}
}

// Out of the loop by a panic, or by a return from within: nothing is told behind it, and they may be gone over again.
func TestP11_2_PagesMayBeLeftByAPanic(t *testing.T) {
	q := all()
	q.Limit = 2
	pages := model.Pages(q, rising)
	for most := 1; most <= 6; most++ {
		told := 0
		func() {
			defer func() {
				if recover() != "left" {
					t.Error("not left by that panic")
				}
			}()
			for range pages {
				told++
				if told == most {
					panic("left")
				}
			}
		}()
		if told != most {
			t.Errorf("left behind %d: %d pages", most, told)
		}
		goesOver(t, "again", pages, cutUp(rising, 2))
	}
}

// Pages that are gone over know nothing of others: of the same within them, nor of other queries'.
func TestP11_2_PagesWithinPages(t *testing.T) {
	q, other := all(), all()
	q.Limit, other.Limit, other.Desc = 2, 5, true
	pages, others := model.Pages(q, rising), model.Pages(other, rising[:7])
	want, wantOthers := cutUp(rising, 2), cutUp(turned(rising[:7], true), 5)
	i := 0
	for page := range pages {
		if !allSame(page, want[i]) {
			t.Errorf("page %d: %s", i, text(page))
		}
		goesOver(t, "within", pages, want)
		goesOver(t, "another", others, wantOthers)
		if got := taken(pages, 1+i%3); !samePages(got, want[:1+i%3]) {
			t.Errorf("left within page %d: %d pages", i, len(got))
		}
		i++
	}
	if i != len(want) {
		t.Errorf("%d pages, not %d", i, len(want))
	}
}
