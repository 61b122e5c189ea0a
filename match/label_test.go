package match_test

import (
	"math"
	"slices"
	"strconv"
	"strings"
	"testing"

	"magpie/api"
	"magpie/match"
	"magpie/parse"
	"magpie/record"
)

func is(name, value string) api.Matcher { return api.Matcher{Name: name, Value: value} }

func isnt(name, value string) api.Matcher {
	return api.Matcher{Name: name, Not: true, Value: value}
}

// labelled is an entry with these labels: a name, its value, and so on.
func labelled(says ...string) api.Entry {
	var e api.Entry
	for i := 0; i < len(says); i += 2 {
		e.Labels = append(e.Labels, api.Label{Name: says[i], Value: says[i+1]})
	}
	return e
}

// label asks whether a matcher keeps an entry just if it should: alone, in a list, in a query, and not the other way round.
func label(t *testing.T, m api.Matcher, e api.Entry, want bool) {
	t.Helper()
	if match.Label(m, e) != want {
		t.Errorf("%.200v keeps %.200v: %v", m, e, !want)
	}
	labels(t, []api.Matcher{m}, e, want)
	m.Not = !m.Not
	if match.Label(m, e) == want {
		t.Errorf("%.200v keeps %.200v: %v", m, e, want)
	}
}

// labels asks whether matchers, all of them, keep an entry just if they should, in a list and in a query.
func labels(t *testing.T, list []api.Matcher, e api.Entry, want bool) {
	t.Helper()
	if match.Labels(list, e) != want {
		t.Errorf("%.200v keep %.200v: %v", list, e, !want)
	}
	if match.Query(api.Query{From: e.At, To: e.At, Match: list, Filter: yes()}, e) != want {
		t.Errorf("a query with %.200v keeps %.200v: %v", list, e, !want)
	}
}

func TestP9_1_Labels(t *testing.T) {
	e := labelled("app", "x", "env", "", "host", "a b")
	for _, c := range []struct {
		name, value string
		same        bool
	}{
		// One that is there.
		{"app", "x", true}, {"app", "y", false}, {"app", "", false}, {"app", "X", false}, {"app", "xx", false}, {"app", "x ", false}, {"app", " x", false}, {"host", "a b", true}, {"host", "a", false}, {"host", "b", false}, {"host", "x", false},
		// One that is there with an empty value.
		{"env", "", true}, {"env", "x", false}, {"env", " ", false}, {"env", "env", false},
		// One that isn't there.
		{"job", "", true}, {"job", "x", false}, {"job", "job", false}, {"App", "", true}, {"App", "x", false}, {"ap", "", true}, {"ap", "x", false}, {"appp", "", true}, {"appp", "x", false},
	} {
		label(t, is(c.name, c.value), e, c.same)
		label(t, isnt(c.name, c.value), e, !c.same)
	}
}

func TestP9_1_LabelOfAnEntryWithout(t *testing.T) {
	for _, e := range []api.Entry{{}, {Labels: []api.Label{}}, {At: 5, Line: "app=x app"}} {
		label(t, is("app", ""), e, true)
		label(t, is("app", "x"), e, false)
		label(t, isnt("app", ""), e, false)
		label(t, isnt("app", "x"), e, true)
	}
}

// valueOf answers, by the chapter's words, an entry's value: that of the label of that name (of several, which none has that can be, of the first one), or an empty one.
func valueOf(e api.Entry, name string) string {
	for i := range e.Labels {
		if e.Labels[i].Name == name {
			return e.Labels[i].Value
		}
	}
	return ""
}

// Labels of all sizes, each of them asked for, of values that are bytes of any kind.
func TestP9_1_EveryLabel(t *testing.T) {
	values := []string{"", "a", "b", "A", "a ", "é", "É", "\xff", "\ufffd", "\xc3", "\n", "\x00", `"`, "=", strings.Repeat("v", 20), strings.Repeat("v", 19), strings.Repeat("v", 5000)}
	for n := range api.MaxLabels + 1 {
		for at, value := range values {
			var e api.Entry
			for i := range n {
				e.Labels = append(e.Labels, api.Label{Name: "l" + strconv.Itoa(i), Value: values[(at+i)%len(values)]})
			}
			for i := range api.MaxLabels + 1 {
				name := "l" + strconv.Itoa(i)
				for _, v := range append([]string{value}, values...) {
					label(t, is(name, v), e, valueOf(e, name) == v)
					label(t, isnt(name, v), e, valueOf(e, name) != v)
				}
			}
		}
	}
}

// Of entries that can't be, and of any matchers, the calls answer the same: of several labels of a name the first one counts (layer 4's Value).
func TestP9_1_LabelsThatCantBe(t *testing.T) {
	for _, e := range []api.Entry{labelled("b", "1", "a", "2"), labelled("", "x"), labelled("a b", "x", "\xff", "y"), labelled("a", strings.Repeat("v", 5000)), labelled("9", "z"), labelled("e", "1", "d", "2", "c", "3", "b", "4", "a", "5", "9", "6")} {
		if record.Good(e) {
			t.Errorf("%.100v can be", e)
		}
		for _, l := range e.Labels {
			label(t, is(l.Name, l.Value), e, true)
			label(t, is(l.Name, l.Value+"x"), e, false)
			label(t, isnt(l.Name, l.Value), e, false)
			label(t, isnt(l.Name, ""), e, true)
		}
		label(t, is("none", ""), e, true)
		label(t, isnt("none", ""), e, false)
	}
	label(t, api.Matcher{}, labelled("a", "x"), true)
	label(t, isnt("", ""), labelled("a", "x"), false)
	label(t, is("", "x"), labelled("", "x"), true)
	for value, want := range map[string]bool{"1": true, "2": false, "": false} {
		label(t, is("a", value), labelled("a", "1", "a", "2", "a", ""), want)
	}
}

// No matcher keeps all; of several all must keep.
func TestP9_1_NoMatcherAndSeveral(t *testing.T) {
	e := labelled("app", "x", "env", "")
	for _, e := range []api.Entry{{}, e, labelled("", "")} {
		labels(t, nil, e, true)
		labels(t, []api.Matcher{}, e, true)
	}
	kept := []api.Matcher{is("app", "x"), isnt("app", "y"), is("env", ""), isnt("env", "x"), is("job", ""), isnt("job", "x"), isnt("app", "")}
	dropped := []api.Matcher{is("app", "y"), isnt("app", "x"), is("env", "x"), isnt("env", ""), is("job", "x"), isnt("job", ""), is("app", "")}
	for n := 1; n <= 6; n++ {
		for ways := range 1 << n {
			var list []api.Matcher
			for i := range n {
				if ways>>i&1 == 1 {
					list = append(list, kept[(i+ways)%len(kept)])
				} else {
					list = append(list, dropped[(i+ways)%len(dropped)])
				}
			}
			labels(t, list, e, ways == 1<<n-1)
		}
	}
	labels(t, []api.Matcher{is("app", "x"), is("app", "x")}, e, true)
	labels(t, []api.Matcher{is("app", "x"), isnt("app", "x")}, e, false)
	labels(t, []api.Matcher{is("app", "x"), is("app", "y")}, e, false)
	labels(t, []api.Matcher{isnt("app", "y"), isnt("app", "z")}, e, true)
	labels(t, slices.Repeat([]api.Matcher{is("app", "x")}, 5000), e, true)
	labels(t, append(slices.Repeat([]api.Matcher{is("app", "x")}, 5000), is("app", "")), e, false)
}

// query asks whether a query keeps an entry of that time just if it should, whichever parts it has that nobody looks at.
func query(t *testing.T, from, to, at int, want bool) {
	t.Helper()
	for _, q := range []api.Query{{}, {Limit: 1}, {Limit: -1, Desc: true}, {Limit: 50, Page: "p"}, {Desc: true, Page: "\xff"}} {
		q.From, q.To, q.Filter = from, to, yes()
		e := api.Entry{At: at}
		if match.Query(q, e) != want {
			t.Errorf("%v keeps %v: %v", q, e, !want)
		}
		q.Match, q.Filter = []api.Matcher{is("app", "x")}, word("a")
		e = labelled("app", "x")
		e.At, e.Line = at, "a"
		if match.Query(q, e) != want {
			t.Errorf("%v keeps %v: %v", q, e, !want)
		}
		e.Line = "b"
		if match.Query(q, e) {
			t.Errorf("%v keeps %v", q, e)
		}
		e.Line = "a"
		e.Labels = nil
		if match.Query(q, e) {
			t.Errorf("%v keeps %v", q, e)
		}
	}
}

func TestP9_1_Times(t *testing.T) {
	const most = api.MaxTime
	for _, c := range []struct{ from, to int }{{0, 0}, {5, 5}, {5, 9}, {-9, -5}, {-1, 1}, {-most, most}, {-most, -most}, {most, most}, {0, most}, {-1 << 32, 1 << 32}, {5, 6}} {
		query(t, c.from, c.to, c.from, true)
		query(t, c.from, c.to, c.to, true)
		query(t, c.from, c.to, c.from-1, false)
		query(t, c.from, c.to, c.to+1, false)
		query(t, c.from, c.to, c.from+1, c.from < c.to)
		query(t, c.from, c.to, c.to-1, c.from < c.to)
		query(t, c.from, c.to, math.MinInt, false)
		query(t, c.from, c.to, math.MaxInt, false)
	}
}

func TestP9_1_EveryTime(t *testing.T) {
	times := []int{math.MinInt, math.MinInt + 1, -api.MaxTime - 1, -api.MaxTime, -2, -1, 0, 1, 2, api.MaxTime, api.MaxTime + 1, math.MaxInt - 1, math.MaxInt}
	for i, from := range times {
		for j, to := range times {
			for k, at := range times {
				query(t, from, to, at, i <= k && k <= j)
			}
		}
	}
}

// Time, matchers and filter are asked, each of them, in all ways.
func TestP9_1_QueryAsksAll(t *testing.T) {
	e := labelled("app", "x", "env", "")
	e.At, e.Line = 5, "GET get k=v"
	for ways := range 8 {
		q := api.Query{From: 5, To: 5, Match: []api.Matcher{isnt("job", "j"), is("app", "x")}, Filter: and(word("get"), field("k", "v"))}
		if ways&1 == 0 {
			q.From, q.To = 6, 9
		}
		if ways&2 == 0 {
			q.Match[1].Not = true
		}
		if ways&4 == 0 {
			q.Filter.Kids[1].Text = ""
		}
		if got := match.Query(q, e); got != (ways == 7) {
			t.Errorf("%v keeps %v: %v", q, e, got)
		}
	}
}

// Queries as they are written.
func TestP9_1_WrittenQueries(t *testing.T) {
	e := labelled("app", "x", "env", "")
	e.At, e.Line = 5, `GET /a k=v ok="1" é getting  200`
	for s, want := range map[string]bool{
		`from 0 to 9 limit 1`: true,
		`from 5 to 5 where app="x" where env="" where job!="j" find word "GET" limit 1`:    true,
		`from 5 to 5 where app="x" where env="" where job!="" find word "GET" limit 1`:     false,
		`from 0 to 9 find word "get" limit 1`:                                              false,
		`from 0 to 9 find not word "get" and has "get" desc limit 1 page "p"`:              true,
		`from 0 to 9 find (word "a" or word "b") and not has "x" limit 5`:                  true,
		`from 0 to 9 find (word "a" or word "b") and not has "g " limit 5`:                 false,
		`from 0 to 9 find field ok="\"1\"" and field k="v" limit 50`:                       true,
		`from 0 to 9 find field ok="1" or field k="" or word "" or has "  2" limit 50`:     true,
		`from 0 to 9 find field ok="1" or field k="" or word "" or not has "  2" limit 50`: false,
		`from -9 to 4 limit 1`:                                                                false,
		`from 6 to 1099511627776 limit 1`:                                                     false,
		`from -1099511627776 to 5 where app!="y" find word "é" limit 1`:                       true,
		`from 5 to 9 where app!="x" find true limit 1`:                                        false,
		`from 5 to 9 find false limit 1`:                                                      false,
		`from 0 to 9 where env!="" limit 1`:                                                   false,
		`from 0 to 9 where env!="a" where env="" where app="x" where app!="" desc limit 1`:    true,
		`from 0 to 9 where env!="a" where env="" where app="x" where app!="x" desc limit 1`:   false,
		`from 0 to 9 find not (not (not (word "GET" and word "POST"))) limit 1`:               true,
		`from 0 to 9 find word "POST" or word "PUT" or word "k" and word "v" limit 1`:         true,
		`from 0 to 9 find (word "POST" or word "PUT" or word "k") and word "w" limit 1`:       false,
		`from 0 to 9 find word "k=v" or word "GET /a" or field GET="" or has "get k" limit 1`: false,
	} {
		q, fault := parse.Parse(s)
		if fault != (api.Fault{}) {
			t.Errorf("%s: %v", s, fault)
		} else if match.Query(q, e) != want {
			t.Errorf("%s: %v", s, !want)
		}
	}
}
