package stream_test

import (
	"math"
	"slices"
	"strconv"
	"strings"
	"testing"

	"magpie/api"
)

// keeps: by the chapters' words alone, whether a question asks for an entry.
func keeps(ask api.StreamAsk, e api.Entry) bool {
	if e.At < ask.From || e.At > ask.To {
		return false
	}
	for _, m := range ask.Match {
		value := ""
		for _, l := range e.Labels {
			if l.Name == m.Name {
				value = l.Value
			}
		}
		if m.Not && value == m.Value || !m.Not && value != m.Value {
			return false
		}
	}
	return true
}

// kept are those of some entries for which a question asks.
func kept(ask api.StreamAsk, list []api.Entry) []api.Entry {
	var out []api.Entry
	for _, e := range list {
		if keeps(ask, e) {
			out = append(out, e)
		}
	}
	return out
}

// smallLabels are entries in their order, each at a time of its own: all labels of three names, each of which has one of a few values, or isn't there.
func smallLabels() []api.Entry {
	var out []api.Entry
	values := []string{"", "x", "b"}
	for i := range 64 {
		var labels []string
		for k, name := range []string{"a", "ab", "b"} {
			if n := i >> (2 * k) & 3; n > 0 {
				labels = append(labels, name, values[n-1])
			}
		}
		out = append(out, entry(i, "q", labels...))
	}
	return out
}

// smallMatchers are all matchers of few names and values.
func smallMatchers() []api.Matcher {
	var out []api.Matcher
	for _, name := range []string{"a", "ab", "b", "c"} {
		for _, value := range []string{"", "x", "b", "z"} {
			out = append(out, is(name, value), isnt(name, value))
		}
	}
	return out
}

// Entries of all small labels, asked for by all small matchers: one, two, and more of them, up to as many as can be.
func TestP14_1_AllSmallMatchers(t *testing.T) {
	list := smallLabels()
	g := engine(list...)
	ask := func(some ...api.Matcher) {
		q := always(some...)
		asks(t, g, q, api.Mark{}, false, 1000, kept(q, list), true)
	}
	for _, one := range smallMatchers() {
		ask(one)
		for _, two := range smallMatchers() {
			ask(one, two)
			ask(one, two, one)
			ask(one, isnt("a", "x"), is("ab", ""), two)
		}
	}
}

// alike are labels whose texts, one behind the other, are the same, or nearly so: names and values part elsewhere.
func alike() [][]string {
	out := [][]string{
		nil, {"a", ""}, {"a", "", "b", ""}, {"ab", ""}, {"a", "b"}, {"a", "bc"}, {"ab", "c"}, {"abc", ""}, {"a", "", "bc", ""}, {"a", "b", "c", ""}, {"a", "", "b", "c"}, {"ab", "", "c", ""}, {"a", "", "b", "", "c", ""},
		{"a", "b", "c", "d"}, {"a", "bc", "d", ""}, {"a", "", "bc", "d"}, {"ab", "c", "d", ""}, {"a", "bcd"}, {"abc", "d"}, {"a", "b", "cd", ""}, {"a", "", "b", "cd"}, {"a", "", "b", "", "c", "d"}, {"a", "", "b", "", "c", "", "d", ""},
		{"a", "b", "c", "\x00d"}, {"a", "b\x00", "c", "d"}, {"a", "\x00"}, {"a", "\x00\x00"}, {"a", "\x01b"}, {"a", "\x01b\x01c\x01d"}, {"a", "\x01"}, {"a", "", "b", "\x01"}, {"a", "\x01b\x00"}, {"a", "\x00\x01b\x00"},
		{"a", "\xff"}, {"a", "\xfe"}, {"a", "\ufffd"}, {"a", "B"}, {"A", "b"}, {"a", " b"}, {"a", "b "}, {"a", "b\t"}, {"a", "b\n"}, {"a", "=b"},
	}
	// A value that has in it what might stand between a value and the next name, and between a name and its value, either way round.
	marks := []string{"", "=", ",", " ", ";", "/", ":", "\n", "\x00", "\x01", "\xff", `"`}
	for _, one := range marks {
		for _, two := range marks {
			out = append(out, []string{"a", "b" + one + "c" + two + "d"}, []string{"c", "b" + one + "a" + two + "d"})
		}
	}
	return append(out, []string{"a", `b",c="d`}, []string{"a", `b" c="d`})
}

// own are matchers by which just the entries of these labels are kept, of those of alike; none, if a matcher can't say a value.
func own(labels []string) []api.Matcher {
	if slices.ContainsFunc(labels, func(s string) bool { return strings.ContainsAny(s, "\n\xff") }) {
		return nil
	}
	var out []api.Matcher
	for i := 0; i < len(labels); i += 2 {
		if labels[i+1] != "" {
			out = append(out, is(labels[i], labels[i+1]))
		}
	}
	return out
}

// Entries of labels that are nearly the same stand in flows of their own: neither is one told with the labels of another, nor by its matchers.
func TestP14_1_LabelsThatAreAlike(t *testing.T) {
	for _, one := range alike() {
		for _, two := range alike() {
			if slices.Equal(one, two) {
				continue
			}
			list := []api.Entry{entry(1, "q", one...), entry(2, "q", two...), entry(3, "q", one...), entry(4, "q", two...)}
			g := engine(list[3], list[0], list[2], list[1], list[0])
			has(t, g, list...)
			for _, q := range []api.StreamAsk{always(own(one)...), flows(2, 3, own(two)...), always(is("a", "b")), always(isnt("a", "")), always(is("a", ""), isnt("b", "c"))} {
				asks(t, g, q, api.Mark{}, true, 9, turned(kept(q, list), true), true)
			}
		}
	}
}

// All of alike in one engine, several entries of each.
func TestP14_1_LabelsThatAreAlikeTogether(t *testing.T) {
	var list []api.Entry
	for i := range 5 {
		for k, labels := range alike() {
			list = append(list, entry(1000*i+k, "q", labels...))
		}
	}
	g := engine(turned(list, true)...)
	has(t, g, list...)
	for _, labels := range alike() {
		some := own(labels)
		if len(some) == 0 {
			continue
		}
		q := always(some...)
		asks(t, g, q, api.Mark{}, false, 9999, kept(q, list), true)
		q = flows(1000, 3999, some...)
		asksAll(t, g, q, behind(entry(2000, "", labels...)), kept(q, list))
	}
}

// Each of many flows is told for itself, though their values begin, end or go on alike.
func TestP14_1_EachFlowIsItsOwn(t *testing.T) {
	var list []api.Entry
	for i := range 300 {
		value := strings.Repeat("a", 1+i%7) + strings.Repeat("b", i/7%7) + strings.Repeat("c", i/49)
		list = append(list, entry(i, "q", "app", value, "no", strconv.Itoa(i)))
	}
	g := engine(list...)
	for i, e := range list {
		app, no := is("app", e.Labels[0].Value), is("no", e.Labels[1].Value)
		asks(t, g, always(no), api.Mark{}, false, 1, []api.Entry{e}, true)
		asks(t, g, always(app, no), api.Mark{}, true, 1000, []api.Entry{e}, true)
		asks(t, g, flows(i, i), api.Mark{}, false, 1, []api.Entry{e}, true)
		q := always(app)
		asks(t, g, q, api.Mark{}, false, 1000, kept(q, list), true)
		q = always(isnt("no", no.Value))
		asks(t, g, q, api.Mark{}, true, 1000, turned(kept(q, list), true), true)
	}
}

// Entries of no labels, of as many as can be, and of empty values.
func TestP14_1_LabelsFewAndMany(t *testing.T) {
	none, empty, some, full, long := entry(1, "q"), entry(1, "q", "a", ""), entry(1, "q", "a", "", "b", "x"), entry(1, "q", "a", "1", "b", "2", "c", "3", "d", "4"), entry(1, "q", xs(20), xs(20))
	list := []api.Entry{none, empty, some, full, long}
	g := engine(full, none, long, empty, some)
	has(t, g, list...)
	for _, c := range []struct {
		match []api.Matcher
		want  []api.Entry
	}{
		{[]api.Matcher{is("a", "")}, []api.Entry{none, empty, some, long}}, {[]api.Matcher{isnt("a", "")}, []api.Entry{full}}, {[]api.Matcher{is("b", "")}, []api.Entry{none, empty, long}}, {[]api.Matcher{isnt("b", "")}, []api.Entry{some, full}}, {[]api.Matcher{is("a", ""), is("b", "x")}, []api.Entry{some}},
		{[]api.Matcher{is("a", "1"), is("b", "2"), is("c", "3"), is("d", "4")}, []api.Entry{full}}, {[]api.Matcher{is("d", "4"), is("b", "2"), is("a", "1"), is("c", "3")}, []api.Entry{full}}, {[]api.Matcher{is("a", "1"), is("b", "2"), is("c", "3"), is("d", "5")}, nil}, {[]api.Matcher{is("a", "2"), is("b", "2"), is("c", "3"), is("d", "4")}, nil}, {[]api.Matcher{isnt("a", "1"), isnt("b", "2"), isnt("c", "3"), isnt("d", "4")}, []api.Entry{none, empty, some, long}},
		{[]api.Matcher{is("d", "4")}, []api.Entry{full}}, {[]api.Matcher{isnt("c", "3")}, []api.Entry{none, empty, some, long}}, {[]api.Matcher{is(xs(20), xs(20))}, []api.Entry{long}}, {[]api.Matcher{isnt(xs(20), xs(20))}, []api.Entry{none, empty, some, full}}, {[]api.Matcher{is(xs(19), xs(20))}, nil}, {[]api.Matcher{is(xs(20), xs(19))}, nil}, {[]api.Matcher{is(xs(20), xs(21))}, nil},
	} {
		asksAll(t, g, always(c.match...), api.Mark{}, c.want)
		asksAll(t, g, flows(1, 1, c.match...), behind(entry(0, "")), c.want)
		asksAll(t, g, flows(2, 9, c.match...), api.Mark{}, nil)
	}
}

// Entries at From and at To are asked for, one ahead and one behind aren't; To below From asks for none.
func TestP14_1_Times(t *testing.T) {
	const most = api.MaxTime
	times := []int{-most, -most + 1, -6, -5, -4, -1, 0, 1, 2, 3, most - 1, most}
	var list []api.Entry
	for _, at := range times {
		list = append(list, entry(at, "q"), entry(at, "q", "app", "x"), entry(at, "r", "app", "x"))
	}
	g := engine(list...)
	for _, from := range append([]int{-2, 5, most / 2}, times...) {
		for _, to := range append([]int{-2, 5, most / 2}, times...) {
			for _, some := range [][]api.Matcher{nil, {is("app", "x")}, {isnt("app", "x")}, {is("app", "z")}} {
				q := flows(from, to, some...)
				asks(t, g, q, api.Mark{}, false, math.MaxInt, kept(q, list), true)
				asks(t, g, q, api.Mark{}, true, math.MaxInt, turned(kept(q, list), true), true)
			}
		}
	}
	asks(t, g, flows(-5, -4, is("app", "")), api.Mark{}, false, 9, []api.Entry{entry(-5, "q"), entry(-4, "q")}, true)
	asks(t, g, flows(-4, -5, is("app", "")), api.Mark{}, false, 9, nil, true)
	asks(t, g, flows(most, -most), api.Mark{}, false, 9, nil, true)
}
