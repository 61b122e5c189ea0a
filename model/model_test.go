package model_test

import (
	"iter"
	"math"
	"math/rand"
	"slices"
	"strconv"
	"strings"
	"testing"

	"magpie/api"
	"magpie/match"
	"magpie/model"
	"magpie/parse"
	"magpie/record"
)

func of(op int, kids ...api.Filter) api.Filter { return api.Filter{Op: op, Kids: kids} }

func yes() api.Filter { return of(api.True) }

func no() api.Filter { return of(api.False) }

func word(s string) api.Filter { return api.Filter{Op: api.Word, Text: s} }

func not(f api.Filter) api.Filter { return of(api.Not, f) }

func is(name, value string) api.Matcher { return api.Matcher{Name: name, Value: value} }

func isnt(name, value string) api.Matcher {
	return api.Matcher{Name: name, Not: true, Value: value}
}

// all is a query that keeps all entries that can be.
func all() api.Query {
	return api.Query{From: -api.MaxTime, To: api.MaxTime, Filter: yes(), Limit: 5}
}

// entry is one of that time and line, with labels: a name, its value, and so on.
func entry(at int, line string, labels ...string) api.Entry {
	e := api.Entry{At: at, Line: line}
	for i := 0; i < len(labels); i += 2 {
		e.Labels = append(e.Labels, api.Label{Name: labels[i], Value: labels[i+1]})
	}
	return e
}

// same: field by field, whether two entries are the same.
func same(a, b api.Entry) bool {
	return a.At == b.At && a.Line == b.Line && slices.Equal(a.Labels, b.Labels)
}

func allSame(a, b []api.Entry) bool { return slices.EqualFunc(a, b, same) }

// text tells entries.
func text(list []api.Entry) string {
	var out []string
	for _, e := range list {
		s := strconv.Itoa(e.At)
		for _, l := range e.Labels {
			s += " " + l.Name + "=" + l.Value
		}
		out = append(out, s+": "+e.Line)
	}
	return strconv.Itoa(len(list)) + " entries (" + strings.Join(out, "; ") + ")"
}

// rising are entries in their order; most differ from the one ahead in one thing alone.
var rising = []api.Entry{
	entry(-5, "b"),
	entry(1, "a"),
	entry(1, "a b"),
	entry(1, "b"),
	entry(1, "b", "app", ""),
	entry(1, "b", "app", "x"),
	entry(1, "b", "app", "x", "env", "y"),
	entry(1, "c", "app", "x", "env", "y"),
	entry(1, "a", "env", "y"),
	entry(2, "a", "env", "y"),
	entry(9, "k=v a"),
	entry(10, ""),
}

// query is one, and of which places of rising it keeps the entries.
type query struct {
	q    api.Query
	kept []int
}

// queries keep all, some and none.
func queries() []query {
	every := []int{0, 1, 2, 3, 4, 5, 6, 7, 8, 9, 10, 11}
	in := func(from, to int, f api.Filter, list ...api.Matcher) api.Query {
		return api.Query{From: from, To: to, Match: list, Filter: f, Limit: 3}
	}
	always := func(f api.Filter, list ...api.Matcher) api.Query { return in(-5, 10, f, list...) }
	return []query{
		{always(yes()), every}, {all(), every}, {always(api.Filter{Op: api.Has}), every}, {always(not(no())), every}, {always(yes(), isnt("app", "z"), is("job", "")), every},
		{always(no()), nil}, {always(word("none")), nil}, {always(yes(), is("job", "x")), nil}, {in(11, 99, yes()), nil}, {in(3, 8, yes()), nil}, {in(10, -5, yes()), nil}, {always(yes(), is("app", "x"), isnt("app", "x")), nil},
		{in(1, 1, yes()), []int{1, 2, 3, 4, 5, 6, 7, 8}}, {in(-5, 1, yes()), every[:9]}, {in(-4, 9, yes()), every[1:11]}, {in(2, 9, yes()), []int{9, 10}}, {in(10, 10, yes()), []int{11}}, {in(-99, -5, yes()), []int{0}},
		{always(yes(), is("app", "x")), []int{5, 6, 7}}, {always(yes(), is("app", "")), []int{0, 1, 2, 3, 4, 8, 9, 10, 11}}, {always(yes(), isnt("app", "")), []int{5, 6, 7}}, {always(yes(), isnt("env", "")), []int{6, 7, 8, 9}}, {always(yes(), is("app", ""), is("env", "y")), []int{8, 9}},
		{always(word("a")), []int{1, 2, 8, 9, 10}}, {always(word("b")), []int{0, 2, 3, 4, 5, 6}}, {always(not(word("a"))), []int{0, 3, 4, 5, 6, 7, 11}}, {always(of(api.And, word("a"), word("b"))), []int{2}}, {always(of(api.Or, word("c"), word("k"))), []int{7, 10}}, {always(api.Filter{Op: api.Field, Name: "k", Text: "v"}), []int{10}},
		{in(1, 2, word("b"), isnt("env", "y")), []int{2, 3, 4, 5}}, {in(1, 8, not(word("b")), is("env", "y")), []int{7, 8, 9}},
	}
}

// at are rising's entries at these places, in lists of their own.
func at(places []int) []api.Entry {
	var out []api.Entry
	for _, i := range places {
		out = append(out, copied(rising[i]))
	}
	return out
}

// copied is an entry that shares no memory with another one.
func copied(e api.Entry) api.Entry {
	e.Labels = slices.Clone(e.Labels)
	e.Line = strings.Clone(e.Line)
	return e
}

// placed are those of some places that are among kept ones, in order, each once; or, if desc, the other way round.
func placed(places, kept []int, desc bool) []int {
	var out []int
	for _, i := range kept {
		if slices.Contains(places, i) {
			out = append(out, i)
		}
	}
	if desc {
		slices.Reverse(out)
	}
	return out
}

// answered asks whether a query's answer over rows, either way round, is that of the entries of these places.
func answered(t *testing.T, c query, places []int, rows ...[]api.Entry) {
	t.Helper()
	for _, desc := range []bool{false, true} {
		c.q.Desc = desc
		want := at(placed(places, c.kept, desc))
		if got := model.Answer(c.q, rows...); !allSame(got, want) {
			t.Errorf("%v over %d rows: %.300s, not %.300s", c.q, len(rows), text(got), text(want))
		}
	}
}

// The tests' own tables: rising is in order, and each query keeps what stands beside it.
func TestP11_1_TheTestsTables(t *testing.T) {
	for i, e := range rising {
		if i > 0 && record.Compare(rising[i-1], e) != -1 {
			t.Errorf("%d doesn't come behind the one ahead", i)
		}
		for _, c := range queries() {
			if match.Query(c.q, e) != slices.Contains(c.kept, i) {
				t.Errorf("%v keeps %s: %v", c.q, text(rising[i:i+1]), match.Query(c.q, e))
			}
		}
	}
}

func TestP11_1_AnswerOfNoRows(t *testing.T) {
	none := []api.Entry{}
	for _, c := range queries() {
		answered(t, c, nil)
		answered(t, c, nil, nil)
		answered(t, c, nil, none)
		answered(t, c, nil, none, nil, make([]api.Entry, 0, 3))
		answered(t, c, nil, slices.Repeat([][]api.Entry{nil}, 1000)...)
		answered(t, c, nil, [][]api.Entry{}...)
		answered(t, c, nil, rising[:0], rising[5:5])
	}
}

// Each entry alone, and all of them, in one row, and in as many as there are, between empty ones.
func TestP11_1_AnswerOfEachAndAll(t *testing.T) {
	for _, c := range queries() {
		var every []int
		var apart, gaps [][]api.Entry
		for i := range rising {
			one := at([]int{i})
			answered(t, c, []int{i}, one)
			answered(t, c, []int{i}, nil, one, []api.Entry{})
			every, apart, gaps = append(every, i), append(apart, one), append(gaps, nil, one)
		}
		back := at(every)
		slices.Reverse(back)
		answered(t, c, every, rising)
		answered(t, c, every, back)
		answered(t, c, every, apart...)
		answered(t, c, every, append(gaps, nil)...)
		answered(t, c, every, rising[6:], rising[:6])
		answered(t, c, every, rising, back, rising)
		answered(t, c, every[3:9], rising[3:7], rising[5:9])
	}
}

// split goes over all ways in which a row of entries stands in rows, none of them empty, one behind the other.
func split(list []api.Entry) iter.Seq[[][]api.Entry] {
	return func(yield func([][]api.Entry) bool) {
		for cuts := range 1 << max(len(list)-1, 0) {
			var rows [][]api.Entry
			from := 0
			for i := range list {
				if i == len(list)-1 || cuts>>i&1 == 1 {
					rows, from = append(rows, list[from:i+1]), i+1
				}
			}
			if !yield(rows) {
				return
			}
		}
	}
}

// All rows of up to 4 of these places, in any order, the same one several times too, in all ways in one row and in several.
func TestP11_1_AnswerOfAnyOrder(t *testing.T) {
	var asking []query
	for i, c := range queries() {
		if i%3 == 0 {
			asking = append(asking, c)
		}
	}
	var rows func(places []int)
	rows = func(places []int) {
		for list := range split(at(places)) {
			for _, c := range asking {
				answered(t, c, places, list...)
			}
		}
		if len(places) < 4 {
			for _, i := range []int{1, 3, 4, 5, 8, 9} {
				rows(append(slices.Clone(places), i))
			}
		}
	}
	rows(nil)
}

// The same one, and two that differ in one thing alone, in one row twice and in several rows.
func TestP11_1_AnswerOfTheSame(t *testing.T) {
	a := entry(5, "x", "app", "y")
	for _, c := range []struct {
		why  string
		b    api.Entry
		same bool
	}{
		{"a copy", copied(a), true},
		{"the time", entry(6, "x", "app", "y"), false},
		{"the label's value", entry(5, "x", "app", "z"), false},
		{"the label's name", entry(5, "x", "b", "y"), false},
		{"one label more", entry(5, "x", "app", "y", "b", ""), false},
		{"the line", entry(5, "y", "app", "y"), false},
		{"the line, which goes on", entry(5, "x ", "app", "y"), false},
	} {
		want := []api.Entry{a, c.b}
		if c.same {
			want = want[:1]
		}
		for _, rows := range [][][]api.Entry{{{a, c.b}}, {{c.b, a}}, {{a}, {c.b}}, {{c.b}, {a}}, {{a, c.b, a, c.b}}, {{c.b, c.b}, {a, a}}, {{a, c.b}, {a, c.b}, {c.b, a}}} {
			if got := model.Answer(all(), rows...); !allSame(got, want) {
				t.Errorf("%s: %s, not %s", c.why, text(got), text(want))
			}
		}
	}
	for _, rows := range [][][]api.Entry{{{{}, {Labels: []api.Label{}}}}, {{{}}, {{Labels: make([]api.Label, 0, 2)}}}} {
		if got := model.Answer(all(), rows...); !allSame(got, []api.Entry{{}}) {
			t.Errorf("an empty list of labels, and none: %s", text(got))
		}
	}
}

// Neither the limit nor the page is asked.
func TestP11_1_AnswerHasNoLimit(t *testing.T) {
	for _, c := range queries() {
		for _, limit := range []int{math.MinInt, -1, 0, 1, 2, 50, math.MaxInt} {
			for _, page := range []string{"", "p", "\xff"} {
				c.q.Limit, c.q.Page = limit, page
				answered(t, c, []int{0, 1, 3, 5, 7, 8, 9, 11}, at([]int{9, 5, 1, 11}), at([]int{8, 7, 5, 3, 0}))
			}
		}
	}
}

// The answer asks of an entry no more than the query does: also such are told as can't be.
func TestP11_1_AnswerOfEntriesThatCantBe(t *testing.T) {
	list := []api.Entry{
		entry(math.MinInt, ""), entry(-api.MaxTime-1, "a"), entry(0, "\n"), entry(0, "a\nb"), entry(0, strings.Repeat("x", 5000)), entry(0, "", "", ""), entry(0, "", "a", "1", "a", "2"), entry(0, "", "a", strings.Repeat("v", 21)),
		entry(0, "", "a b", "x"), entry(0, "", "b", "", "a", ""), entry(0, "", "b", "", "c", "", "d", "", "e", "", "f", ""), entry(0, "", "\xff", "\xff"), entry(api.MaxTime+1, ""), entry(math.MaxInt, "\xff"),
	}
	q := api.Query{From: math.MinInt, To: math.MaxInt, Filter: yes()}
	back := slices.Clone(list)
	slices.Reverse(back)
	if got := model.Answer(q, back[:5], list, back[5:]); !allSame(got, list) {
		t.Errorf("%.500s, not %.500s", text(got), text(list))
	}
	q.Desc = true
	if got := model.Answer(q, list); !allSame(got, back) {
		t.Errorf("%.500s, not %.500s", text(got), text(back))
	}
}

// many are entries in order, one of each time, labels and line.
func many() []api.Entry {
	var out []api.Entry
	for _, when := range []int{-api.MaxTime, -10, -9, -1, 0, 1, 9, 10, api.MaxTime} {
		for _, labels := range [][]string{nil, {"app", ""}, {"app", "x"}, {"app", "x", "env", ""}, {"app", "y"}, {"env", "x"}} {
			for _, line := range []string{"", "a", "a b", "ab", "b", "\xff"} {
				out = append(out, entry(when, line, labels...))
			}
		}
	}
	return out
}

// strewn are so many rows in which each of some entries stands once to three times, in any order.
func strewn(r *rand.Rand, list []api.Entry, rows int) [][]api.Entry {
	var often []api.Entry
	for _, e := range list {
		often = append(often, slices.Repeat([]api.Entry{e}, 1+r.Intn(3))...)
	}
	out := make([][]api.Entry, rows)
	for _, i := range r.Perm(len(often)) {
		n := r.Intn(rows)
		out[n] = append(out[n], often[i])
	}
	return out
}

func TestP11_1_AnswerOfMany(t *testing.T) {
	list := many()
	r := rand.New(rand.NewSource(11))
	for range 300 {
		q := all()
		q.Desc = r.Intn(2) == 0
		if r.Intn(2) == 0 {
			q.Filter, q.Match = word("a"), []api.Matcher{is("env", "")}
		}
		var want []api.Entry
		for _, e := range list {
			if match.Query(q, e) {
				want = append(want, e)
			}
		}
		if q.Desc {
			slices.Reverse(want)
		}
		if got := model.Answer(q, strewn(r, list, 1+r.Intn(6))...); !allSame(got, want) {
			t.Errorf("%v: %.300s, not %.300s", q, text(got), text(want))
		}
	}
}

// lines are that many entries in order, whose times are at hand.
func lines(n int) []api.Entry {
	var out []api.Entry
	for i := range n {
		out = append(out, entry(i, "a"))
	}
	return out
}

func TestP11_1_AnswerOfVeryMany(t *testing.T) {
	list := lines(1 << 15)
	r := rand.New(rand.NewSource(12))
	if got := model.Answer(all(), strewn(r, list, 9)...); !allSame(got, list) {
		t.Errorf("%d entries, not %d", len(got), len(list))
	}
	if got := model.Answer(all(), slices.Repeat([][]api.Entry{list[:8]}, 1<<13)...); !allSame(got, list[:8]) {
		t.Errorf("%d entries, not 8", len(got))
	}
	var apart [][]api.Entry
	for i := range list {
		apart = append(apart, list[i:i+1])
	}
	slices.Reverse(apart)
	if got := model.Answer(all(), apart...); !allSame(got, list) {
		t.Errorf("%d entries, not %d", len(got), len(list))
	}
}

// Queries as they are written.
func TestP11_1_WrittenQueries(t *testing.T) {
	for s, want := range map[string][]int{
		`from -5 to 10 limit 1`:                                              {0, 1, 2, 3, 4, 5, 6, 7, 8, 9, 10, 11},
		`from 1 to 2 where app="x" limit 1`:                                  {5, 6, 7},
		`from 1 to 2 where app="x" desc limit 50 page "p"`:                   {7, 6, 5},
		`from 1 to 9 find word "a" and not word "b" desc limit 1`:            {10, 9, 8, 1},
		`from 1 to 9 where env="" find word "a" or word "b" limit 2`:         {1, 2, 3, 4, 5, 10},
		`from 0 to 0 desc limit 2`:                                           nil,
		`from -5 to 10 find field k="v" or not has "b" and has "c" limit 50`: {7, 10},
	} {
		q, fault := parse.Parse(s)
		if fault != (api.Fault{}) {
			t.Errorf("%s: %v", s, fault)
		} else if got := model.Answer(q, rising[4:], rising[:8]); !allSame(got, at(want)) {
			t.Errorf("%s: %s, not %s", s, text(got), text(at(want)))
		}
	}
}
