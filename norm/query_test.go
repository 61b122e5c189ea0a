package norm_test

import (
	"math/rand"
	"slices"
	"strings"
	"testing"

	"magpie/api"
	"magpie/norm"
	"magpie/parse"
	"magpie/show"
	"magpie/tree"
)

func is(name, value string) api.Matcher { return api.Matcher{Name: name, Value: value} }

func isnt(name, value string) api.Matcher {
	return api.Matcher{Name: name, Not: true, Value: value}
}

// ordered are matchers as they stand in order: by name, those that aren't Not first, by value, byte by byte.
var ordered = []api.Matcher{
	is("A", "z"), isnt("A", ""), is("Z", "a"), is("_", "z"), is("_9", ""),
	is("a", ""), is("a", "9"), is("a", "A"), is("a", "a"), is("a", "a "), is("a", "ab"), is("a", "b"), is("a", "\u00e9"), is("a", "\ufffd"), is("a", "\U00010000"), is("a", "\xff"),
	isnt("a", ""), isnt("a", "9"), isnt("a", "a"), isnt("a", "b"), isnt("a", "\xff"),
	is("a9", ""), is("aa", ""), isnt("aa", ""), is("ab", "a"), isnt("ab", "A"), is("b", ""), is("b", "a"), isnt("b", "a"), isnt("bb", "a"),
}

// matched asks whether matchers become these ones in a query's plain form.
func matched(t *testing.T, list, want []api.Matcher) {
	t.Helper()
	if got := norm.Query(api.Query{Match: list, Filter: yes()}); !tree.Same(got, api.Query{Match: want, Filter: yes()}) {
		t.Errorf("%.100v become %.100v, not %.100v", list, got.Match, want)
	}
}

// picked are those of a list at these places, in the list's order, each once.
func picked(list []api.Matcher, places []int) []api.Matcher {
	var out []api.Matcher
	for i, m := range list {
		if slices.Contains(places, i) {
			out = append(out, m)
		}
	}
	return out
}

// Up to three matchers of all, in any order, the same one twice and three times too.
func TestP10_1_MatchersInAnyOrder(t *testing.T) {
	var rows func(places []int)
	rows = func(places []int) {
		var list []api.Matcher
		for _, i := range places {
			list = append(list, ordered[i])
		}
		matched(t, list, picked(ordered, places))
		if len(places) < 3 {
			for i := range ordered {
				rows(append(slices.Clone(places), i))
			}
		}
	}
	rows(nil)
}

func TestP10_1_MatchersFew(t *testing.T) {
	for _, c := range []struct{ list, want []api.Matcher }{
		{nil, nil}, {[]api.Matcher{}, nil}, {[]api.Matcher{is("a", "x")}, []api.Matcher{is("a", "x")}},
		// By name.
		{[]api.Matcher{is("b", "a"), is("a", "b")}, []api.Matcher{is("a", "b"), is("b", "a")}},
		{[]api.Matcher{is("b", "a"), isnt("a", "b")}, []api.Matcher{isnt("a", "b"), is("b", "a")}},
		{[]api.Matcher{is("ab", "c"), is("a", "bc")}, []api.Matcher{is("a", "bc"), is("ab", "c")}},
		{[]api.Matcher{is("a", "z"), is("B", "z")}, []api.Matcher{is("B", "z"), is("a", "z")}},
		// In the Not alone.
		{[]api.Matcher{isnt("a", "x"), is("a", "x")}, []api.Matcher{is("a", "x"), isnt("a", "x")}},
		{[]api.Matcher{isnt("a", ""), is("a", "x")}, []api.Matcher{is("a", "x"), isnt("a", "")}},
		// In the value alone.
		{[]api.Matcher{is("a", "y"), is("a", "x")}, []api.Matcher{is("a", "x"), is("a", "y")}},
		{[]api.Matcher{isnt("a", "x"), isnt("a", "")}, []api.Matcher{isnt("a", ""), isnt("a", "x")}},
		{[]api.Matcher{is("a", "10"), is("a", "9")}, []api.Matcher{is("a", "10"), is("a", "9")}},
		// The same one twice: side by side, and not.
		{[]api.Matcher{is("a", "x"), is("a", "x")}, []api.Matcher{is("a", "x")}},
		{[]api.Matcher{is("b", "x"), is("a", "x"), is("b", "x")}, []api.Matcher{is("a", "x"), is("b", "x")}},
		{[]api.Matcher{isnt("a", "x"), is("a", "x"), isnt("a", "x"), is("a", "x")}, []api.Matcher{is("a", "x"), isnt("a", "x")}},
		{[]api.Matcher{is("", ""), is("", "")}, []api.Matcher{is("", "")}},
	} {
		matched(t, c.list, c.want)
	}
}

func TestP10_1_ManyMatchers(t *testing.T) {
	r := rand.New(rand.NewSource(101))
	for _, n := range []int{4, 5, 13, 30, 200, 5000} {
		for range 20 {
			var list []api.Matcher
			var places []int
			for range n {
				i := r.Intn(len(ordered))
				list, places = append(list, ordered[i]), append(places, i)
			}
			matched(t, list, picked(ordered, places))
		}
	}
	back := slices.Clone(ordered)
	slices.Reverse(back)
	matched(t, back, ordered)
	matched(t, ordered, ordered)
	matched(t, slices.Repeat(ordered, 50), ordered)
}

// wholes are queries, and their plain forms.
func wholes() [][2]api.Query {
	var out [][2]api.Query
	for _, times := range [][2]int{{0, 0}, {0, 9}, {-9, -1}, {-1 << 40, 1 << 40}, {9, 0}} {
		for _, limit := range []int{-1, 0, 1, 50, 51} {
			for _, desc := range []bool{false, true} {
				for _, page := range []string{"", "p", "00", "\xff\n", strings.Repeat("0", 5000)} {
					q := api.Query{From: times[0], To: times[1], Match: []api.Matcher{isnt("b", "x"), is("a", "y"), is("b", "z"), is("a", "y")}, Filter: not(and(word("a"), no(), has("b"))), Desc: desc, Limit: limit, Page: page}
					w := api.Query{From: times[0], To: times[1], Match: []api.Matcher{is("a", "y"), is("b", "z"), isnt("b", "x")}, Filter: yes(), Desc: desc, Limit: limit}
					out = append(out, [2]api.Query{q, w})
					q.Match, q.Filter = nil, not(or(word("a"), not(has("b"))))
					w.Match, w.Filter = nil, and(not(word("a")), has("b"))
					out = append(out, [2]api.Query{q, w})
				}
			}
		}
	}
	return out
}

// A query's plain form is the query but for its filter, its matchers, and its page.
func TestP10_1_Queries(t *testing.T) {
	for _, c := range wholes() {
		if got := norm.Query(c[0]); !tree.Same(got, c[1]) {
			t.Errorf("%v becomes %v, not %v", c[0], got, c[1])
		}
		if got, want := norm.Key(c[0]), show.Plain(c[1]); got != want {
			t.Errorf("%v: %q, not %q", c[0], got, want)
		}
	}
}

func TestP10_1_Keys(t *testing.T) {
	for s, want := range map[string]string{
		`from 0 to 9 limit 5`:                        `from 0 to 9 limit 5`,
		`from 0 to 9 limit 5 page "p"`:               `from 0 to 9 limit 5`,
		`from 0 to 9 desc limit 5 page ""`:           `from 0 to 9 desc limit 5`,
		`from -7 to -7 find true limit 50 page "\""`: `from -7 to -7 limit 50`,
		`from 0 to 9 find false limit 5`:             `from 0 to 9 find false limit 5`,
		`from 0 to 9 find not true limit 5`:          `from 0 to 9 find false limit 5`,
		`from 0 to 9 find not false limit 5`:         `from 0 to 9 limit 5`,
		`from 0 to 9 where b!="x" where a="y" where b="z" where a="y" find not not true desc limit 5 page "p"`: `from 0 to 9 where a="y" where b="z" where b!="x" desc limit 5`,
		`from 0 to 9 where a!="" where a="" find word "b" and (word "a" and true) limit 1`:                     `from 0 to 9 where a="" where a!="" find word "b" and word "a" limit 1`,
		`from 0 to 9 where a="x" where a="x" where a="x" where a="x" find not (has "\"" or has "\\") limit 1`:  `from 0 to 9 where a="x" find not has "\"" and not has "\\" limit 1`,
		`from 0 to 9 find not (word "a" and not (word "b" and has "c")) limit 1`:                               `from 0 to 9 find not word "a" or (word "b" and has "c") limit 1`,
		`from 0 to 9 find not (word "a" and not has "b") limit 1`:                                              `from 0 to 9 find not word "a" or has "b" limit 1`,
	} {
		for _, text := range []string{s, want} {
			q, fault := parse.Parse(text)
			if fault != (api.Fault{}) {
				t.Fatalf("%s: %v", text, fault)
			}
			if got := norm.Key(q); got != want {
				t.Errorf("%s: %s, not %s", text, got, want)
			}
		}
	}
}

// asking are queries, in rows of those that have one plain form; those of two rows have two.
func asking() [][]api.Query {
	a, b, c := word("a"), has("b"), field("k", "c")
	filters := [][]api.Filter{
		{yes(), not(no()), and(yes(), yes()), or(a, yes()), not(and(a, no())), nots(4, yes())}, {no(), not(yes()), and(a, no(), b), or(no(), no())},
		{a, nots(2, a), and(a, yes()), or(no(), a), and(yes(), or(a, no()))}, {not(a), nots(3, a), not(and(a, yes()))}, {has("a")}, {word("b")}, {word("a a")}, {word("A")}, {field("k", "a")}, {field("a", "k")},
		{and(a, b), not(or(not(a), not(b))), and(a, yes(), b), and(nots(2, a), b)}, {and(b, a)}, {or(a, b), not(and(not(a), not(b))), or(a, or(no(), b))}, {or(b, a)}, {and(a, a)}, {or(a, a)}, {and(a, a, a), and(a, and(a, a)), not(or(not(a), not(and(a, a))))},
		{and(a, b, c), and(and(a, b), c), and(a, and(b, c)), and(a, not(or(not(b), not(c))))}, {or(a, b, c), or(or(a, b), c), not(and(not(or(a, b)), not(c)))}, {and(a, or(b, c)), and(a, not(and(not(b), not(c))))}, {or(and(a, b), c)}, {or(a, and(b, c))}, {and(or(a, b), c)}, {and(not(a), not(b)), not(or(a, b))}, {or(not(a), not(b)), not(and(a, b))}, {and(not(a), b)}, {and(a, not(b))},
	}
	matches := [][][]api.Matcher{
		{nil, {}}, {{is("a", "x")}, {is("a", "x"), is("a", "x")}}, {{isnt("a", "x")}}, {{is("a", "")}}, {{is("b", "x")}}, {{is("a", "x"), is("b", "y")}, {is("b", "y"), is("a", "x")}, {is("b", "y"), is("a", "x"), is("b", "y")}}, {{is("a", "x"), isnt("a", "x")}, {isnt("a", "x"), is("a", "x")}}, {{is("a", "y"), is("b", "x")}}, {{is("a", "x"), isnt("b", "y")}},
	}
	var out [][]api.Query
	for i, fs := range filters {
		for j, ms := range matches {
			one := api.Query{From: 0, To: 9, Limit: 1 + (i+j)%2, Desc: (i+j)%3 == 0}
			var row []api.Query
			for _, f := range fs {
				for _, m := range ms {
					one.Filter, one.Match = f, m
					row = append(row, one)
					one.Page += "p"
				}
			}
			out = append(out, row)
		}
	}
	for _, q := range []api.Query{{From: 1, To: 9, Limit: 3}, {From: -1, To: 9, Limit: 3}, {To: 9, Limit: 3}, {To: 8, Limit: 3}, {To: 9, Limit: 4}, {To: 9, Limit: 3, Desc: true}, {From: 1, To: 8, Limit: 3}} {
		q.Filter = a
		other := q
		other.Filter, other.Page = and(a, yes()), "p"
		out = append(out, []api.Query{q, other})
	}
	return out
}

// Queries have one key just if they have one plain form.
func TestP10_1_KeysOfPairs(t *testing.T) {
	rows := asking()
	if len(rows) < 200 {
		t.Fatalf("%d rows", len(rows))
	}
	for i, row := range rows {
		for _, q := range row {
			if norm.Key(q) != norm.Key(row[0]) || !tree.Same(norm.Query(q), norm.Query(row[0])) {
				t.Errorf("%v: %s, %v: %s", q, norm.Key(q), row[0], norm.Key(row[0]))
			}
		}
		for _, other := range rows[:i] {
			if norm.Key(row[0]) == norm.Key(other[0]) || tree.Same(norm.Query(row[0]), norm.Query(other[0])) {
				t.Errorf("%v and %v: %s", row[0], other[0], norm.Key(row[0]))
			}
		}
	}
}

// A key is a query's text: it is parsed to the query's plain form.
func TestP10_1_KeysAreParsed(t *testing.T) {
	for _, row := range asking() {
		for _, q := range row {
			got, fault := parse.Parse(norm.Key(q))
			if fault != (api.Fault{}) || !tree.Same(got, norm.Query(q)) || norm.Key(got) != norm.Key(q) {
				t.Errorf("%s: %v, %v", norm.Key(q), got, fault)
			}
		}
	}
}
