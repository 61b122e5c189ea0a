package norm_test

import (
	"math/rand"
	"slices"
	"testing"

	"magpie/api"
	"magpie/match"
	"magpie/norm"
	"magpie/tree"
)

// lines are such that each of three filters, word a, has b, and field k=c, keeps some of them, whatever the others do; and some more.
var lines = []string{"", "a", "xbx", "k=c", "a xbx", "a k=c", "xbx k=c", "a xbx k=c", " ", "ab", "a b", "\xff", "a\xffb", "k=c=", "x", "é"}

// three are those filters, with True and False.
func three() []api.Filter {
	return []api.Filter{yes(), no(), word("a"), has("b"), field("k", "c")}
}

// keepsSame asks whether a filter and its plain form keep the same lines.
func keepsSame(t *testing.T, f api.Filter) {
	t.Helper()
	g := norm.Filter(f)
	for _, line := range lines {
		if match.Line(f, line) != match.Line(g, line) {
			t.Fatalf("%s keeps %q: %v, and %s doesn't do so", short(f), line, match.Line(f, line), short(g))
		}
	}
}

// fault tells what a filter has in it that no plain form has; nothing, if it is one.
func fault(f api.Filter) string {
	for g, depth := range tree.All(f) {
		edge := func(kid api.Filter) bool { return kid.Op == api.True || kid.Op == api.False }
		own := func(kid api.Filter) bool { return kid.Op == g.Op }
		switch {
		case edge(g) && depth > 0:
			return "True or False within others"
		case g.Op == api.Not && (len(g.Kids) != 1 || g.Kids[0].Op < api.Word || g.Kids[0].Op > api.Field):
			return "a not of no word, text or field"
		case (g.Op == api.And || g.Op == api.Or) && len(g.Kids) < 2:
			return "a row of less than two"
		case slices.ContainsFunc(g.Kids, own):
			return "one within its own kind"
		}
	}
	return ""
}

// settled asks whether a filter's plain form is one, and the plain form of it is it again.
func settled(t *testing.T, f api.Filter) {
	t.Helper()
	g := norm.Filter(f)
	if s := fault(g); s != "" {
		t.Errorf("%s: %s: %s", short(f), short(g), s)
	}
	if again := norm.Filter(g); !tree.Filter(again, g) {
		t.Errorf("%s: %s, and of that %s", short(f), short(g), short(again))
	}
	if (fault(f) == "") != tree.Filter(f, g) {
		t.Errorf("%s: %s", short(f), short(g))
	}
}

func TestP10_2_EverySmallFilter(t *testing.T) {
	for size := 1; size <= 5; size++ {
		for _, f := range small(size, three()) {
			keepsSame(t, f)
			settled(t, f)
		}
	}
}

func TestP10_2_Rows(t *testing.T) {
	kids := small(3, three())
	for _, f := range kids {
		for _, g := range kids {
			for _, h := range []api.Filter{and(f, g), or(f, g), not(and(f, g)), not(or(g, f)), and(f, or(has("b"), g)), or(not(f), and(g, word("a")), g)} {
				keepsSame(t, h)
			}
		}
	}
}

// within is a filter of the three filters, True and False that can be, of which nothing stands deeper than so.
func within(r *rand.Rand, depth int) api.Filter {
	var change func(f api.Filter) api.Filter
	change = func(f api.Filter) api.Filter {
		if f.Op >= api.Word && f.Op <= api.Field {
			return pick(r, three()[2:])
		}
		for i, kid := range f.Kids {
			f.Kids[i] = change(kid)
		}
		return f
	}
	return change(some(r, depth, 10))
}

func TestP10_2_AnyFilters(t *testing.T) {
	r := rand.New(rand.NewSource(102))
	for range 5000 {
		f := within(r, r.Intn(7))
		keepsSame(t, f)
		settled(t, f)
	}
}

// Filters as deep as they may be: one of a row's kids goes on, the others are without kids.
func TestP10_2_DeepFilters(t *testing.T) {
	r := rand.New(rand.NewSource(18))
	for range 3000 {
		f := pick(r, three())
		for range 2*api.MaxDepth + 2 {
			op := api.Not + r.Intn(3)
			if op == api.Not {
				f = not(f)
				continue
			}
			kids := []api.Filter{pick(r, three()[2:]), pick(r, three()[r.Intn(3):])}
			kids[r.Intn(2)] = f
			f = of(op, kids...)
		}
		if !tree.Good(f) {
			t.Fatalf("%s can't be", short(f))
		}
		keepsSame(t, f)
		settled(t, f)
		answers(t, f, wanted(f))
	}
}

// entries are such that matchers of two names, filters, and times keep some of them.
func entries() []api.Entry {
	var out []api.Entry
	values := []string{"", "x", "y"}
	for at := -1; at <= 3; at++ {
		for _, a := range values {
			for _, b := range values {
				e := api.Entry{At: at, Labels: []api.Label{{Name: "a", Value: a}, {Name: "b", Value: b}}, Line: lines[len(out)%len(lines)]}
				out = append(out, e, api.Entry{At: at, Line: e.Line}, api.Entry{At: at, Labels: e.Labels[:1], Line: "a xbx"})
			}
		}
	}
	return out
}

// Queries and their plain forms keep the same entries; and the plain form of that is it again, with the same key.
func TestP10_2_Entries(t *testing.T) {
	r := rand.New(rand.NewSource(103))
	matchers := []api.Matcher{is("a", ""), is("a", "x"), isnt("a", ""), isnt("a", "x"), is("b", ""), is("b", "y"), isnt("b", "x"), isnt("c", "x"), is("c", "")}
	all, kept := entries(), 0
	for range 3000 {
		q := api.Query{From: r.Intn(4) - 1, To: r.Intn(4), Filter: within(r, r.Intn(4)), Desc: r.Intn(2) == 0, Limit: 1 + r.Intn(50), Page: pick(r, []string{"", "p"})}
		for range r.Intn(5) {
			q.Match = append(q.Match, pick(r, matchers))
		}
		p := norm.Query(q)
		for _, e := range all {
			if match.Query(q, e) != match.Query(p, e) {
				t.Errorf("%v keeps %v: %v, and %v doesn't do so", q, e, match.Query(q, e), p)
			}
			if match.Query(p, e) {
				kept++
			}
		}
		if !tree.Same(norm.Query(p), p) {
			t.Errorf("%v becomes %v, and that %v", q, p, norm.Query(p))
		}
		if norm.Key(p) != norm.Key(q) {
			t.Errorf("%v: %s, and of its plain form %s", q, norm.Key(q), norm.Key(p))
		}
	}
	if kept == 0 {
		t.Error("no entry was kept: the test is too small")
	}
}

// The plain form of what is plain is it again, of queries of all parts.
func TestP10_2_Again(t *testing.T) {
	for _, c := range wholes() {
		for _, q := range []api.Query{norm.Query(c[0]), c[1]} {
			if got := norm.Query(q); !tree.Same(got, q) {
				t.Errorf("%v becomes %v", q, got)
			}
		}
	}
	for _, f := range leaves() {
		for _, g := range alone() {
			for _, h := range []api.Filter{f, not(f), and(f, g), or(not(g), f), not(and(f, or(g, g)))} {
				settled(t, h)
			}
		}
	}
}
