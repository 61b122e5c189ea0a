package match_test

import (
	"math"
	"math/rand"
	"slices"
	"strings"
	"testing"

	"magpie/api"
	"magpie/match"
	"magpie/record"
	"magpie/tree"
)

// ends asks that all calls end; of filters that can't be nothing else is promised.
func ends(f api.Filter) {
	for _, line := range odd {
		match.Line(f, line)
		match.Query(api.Query{From: -1, To: 1, Match: []api.Matcher{is("a", "")}, Filter: f}, api.Entry{Line: line})
	}
}

func TestP9_1_OfOthersCallsEnd(t *testing.T) {
	for _, op := range []int{math.MinInt, math.MaxInt, -1, 0, 1, 2, 3, 4, 5, 6, 7, 8, 9, 10, 1 << 32, 1<<32 + api.Not} {
		for _, kids := range [][]api.Filter{nil, {}, {{}}, {yes()}, {no(), yes()}, {{Op: op}, {Op: op}}, {and(), or(), of(api.Not)}, {and(or(not(and(of(api.Not)))))}} {
			for _, text := range []string{"", "a", " ", "\xff", "\n", strings.Repeat("x", 5000)} {
				f := api.Filter{Op: op, Name: text, Text: text, Kids: kids}
				ends(f)
				ends(not(f))
				ends(and(f, f))
				ends(or(f))
			}
		}
	}
}

func TestP9_1_OfDeepestCallsEnd(t *testing.T) {
	for _, op := range []int{api.Not, api.And, api.Or, 0, 9} {
		f := api.Filter{Op: op}
		for range 1 << 16 {
			f = of(op, f)
		}
		match.Line(f, "a")
		match.Query(api.Query{Filter: f}, api.Entry{Line: "a"})
	}
}

// anyFilter is a filter of any kind and parts.
func anyFilter(r *rand.Rand, depth int) api.Filter {
	f := api.Filter{Op: r.Intn(12) - 1, Name: pick(r, odd), Text: pick(r, odd)}
	if depth > 0 {
		for range r.Intn(4) {
			f.Kids = append(f.Kids, anyFilter(r, depth-1))
		}
	}
	return f
}

func TestP9_1_OfAnyCallsEnd(t *testing.T) {
	r := rand.New(rand.NewSource(91))
	for range 1000 {
		ends(anyFilter(r, r.Intn(5)))
	}
}

// handed is what is handed in: a query and an entry, and the whole of their lists, with the room behind, in which something stands that isn't theirs.
type handed struct {
	q           api.Query
	e           api.Entry
	match       []api.Matcher
	kids, inner []api.Filter
	labels      []api.Label
}

// spare is such a one, in memory of its own.
func spare(line string) handed {
	h := handed{
		match:  []api.Matcher{is("b", "y"), isnt("a", "z"), is("c", ""), is("far", "off")},
		inner:  []api.Filter{has("b"), word("a"), not(no()), word("far off")},
		labels: []api.Label{{Name: "a", Value: "x"}, {Name: "b", Value: "y"}, {Name: "far", Value: "off"}},
	}
	h.kids = []api.Filter{not(field("k", "v")), {Op: api.Or, Kids: h.inner[:3]}, or(no(), word("a")), word("far off")}
	h.q = api.Query{From: 1, To: 2, Match: h.match[:3], Filter: api.Filter{Op: api.And, Kids: h.kids[:3]}, Desc: true, Limit: 3, Page: "p"}
	h.e = api.Entry{At: 2, Labels: h.labels[:2], Line: line}
	return h
}

// equal: whether two are the same in all, room too.
func equal(a, b handed) bool {
	return tree.Same(a.q, b.q) && record.Compare(a.e, b.e) == 0 && slices.Equal(a.match, b.match) &&
		slices.EqualFunc(a.kids, b.kids, tree.Filter) && slices.EqualFunc(a.inner, b.inner, tree.Filter) && slices.Equal(a.labels, b.labels)
}

// What is handed in stays as it is, whether it is kept or not; each call is looked at alone, so that none sets right what another one did.
func TestP9_1_HandedInIsKept(t *testing.T) {
	for _, line := range []string{"c a k=w", "a k=v", "", "b", "\xff"} {
		other := spare(line)
		want := wanted(other.q.Filter, line)
		for name, c := range map[string]struct {
			call func(h handed) bool
			want bool
		}{
			"Line":   {func(h handed) bool { return match.Line(h.q.Filter, line) }, want},
			"Or":     {func(h handed) bool { return match.Line(h.kids[1], line) }, true},
			"Not":    {func(h handed) bool { return match.Line(h.kids[0], line) }, wanted(other.kids[0], line)},
			"Label":  {func(h handed) bool { return match.Label(h.match[0], h.e) }, true},
			"Far":    {func(h handed) bool { return match.Label(h.match[3], h.e) }, false},
			"Labels": {func(h handed) bool { return match.Labels(h.q.Match, h.e) }, true},
			"All":    {func(h handed) bool { return match.Labels(h.match, h.e) }, false},
			"Query":  {func(h handed) bool { return match.Query(h.q, h.e) }, want},
		} {
			h := spare(line)
			if c.call(h) != c.want {
				t.Errorf("%s of %v: %v", name, h, !c.want)
			}
			if !equal(h, other) {
				t.Errorf("behind %s: %v, not %v", name, h, other)
			}
		}
	}
}

// What is written into what was handed in is seen by the next call alone: each asks what it is handed then.
func TestP9_1_HandedInIsntKept(t *testing.T) {
	h := spare("c a k=w")
	asks := func(line, labels, first bool) {
		t.Helper()
		if match.Line(h.q.Filter, h.e.Line) != line || match.Labels(h.q.Match, h.e) != labels || match.Label(h.q.Match[0], h.e) != first || match.Query(h.q, h.e) != (line && labels) {
			t.Errorf("%v, %v: not %v, %v, %v", h.q, h.e, line, labels, first)
		}
	}
	asks(true, true, true)
	h.kids[0] = no()
	asks(false, true, true)
	h.kids[0] = yes()
	asks(true, true, true)
	h.labels[1].Value = "x"
	asks(true, false, false)
	h.match[0].Value = "x"
	asks(true, true, true)
	h.match[2].Not = true
	asks(true, false, true)
	h.labels[0] = api.Label{Name: "c", Value: "x"}
	asks(true, true, true)
	h.inner[1], h.inner[2] = no(), no()
	asks(false, true, true)
}
