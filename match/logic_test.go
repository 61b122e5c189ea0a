package match_test

import (
	"math/rand"
	"slices"
	"testing"

	"magpie/api"
	"magpie/match"
	"magpie/tree"
)

// lines are such of which filters of leaves keep some, and let others go.
var lines = []string{"", " ", "a", "b", "ab", "a b", "a-b", "k=a", "k=a b", "a k=", "k=a k=b", "  a  ", "é", "a\xffb", "\xff", "k=\xff a"}

// leaves are filters without kids, of each kind.
func leaves() []api.Filter {
	return []api.Filter{yes(), no(), word("a"), word("b"), word(""), has(""), has("a"), has(" "), has("a b"), field("k", "a"), field("k", "")}
}

// small are leaves, nots of them, and rows of two of them.
func small() []api.Filter {
	out := leaves()
	for _, f := range leaves() {
		out = append(out, not(f), not(not(f)))
		for _, g := range leaves() {
			out = append(out, and(f, g), or(f, g))
		}
	}
	return out
}

// same asks whether two filters keep the same of all lines.
func same(t *testing.T, f, g api.Filter) {
	t.Helper()
	for _, line := range lines {
		if match.Line(f, line) != match.Line(g, line) {
			t.Errorf("%v keeps %q: %v, and %v doesn't do so", f, line, match.Line(f, line), g)
		}
	}
}

// opposite asks whether of two filters always just one keeps a line.
func opposite(t *testing.T, f, g api.Filter) {
	t.Helper()
	for _, line := range lines {
		if match.Line(f, line) == match.Line(g, line) {
			t.Errorf("%v keeps %q: %v, and so does %v", f, line, match.Line(f, line), g)
		}
	}
}

// What a filter keeps, not of it lets go, and the other way round; two nots are none.
func TestP9_2_NotIsTheOpposite(t *testing.T) {
	for _, f := range small() {
		opposite(t, f, not(f))
		same(t, f, not(not(f)))
		opposite(t, f, not(not(not(f))))
		same(t, and(f, not(f)), no())
		same(t, or(f, not(f)), yes())
	}
	same(t, not(yes()), no())
	same(t, not(no()), yes())
}

// Each line that a filter keeps, not of it doesn't, of lines of all bytes too.
func TestP9_2_NotOnEveryByte(t *testing.T) {
	for c := range 256 {
		one := string([]byte{byte(c)})
		for _, line := range []string{one, "a" + one, one + "a", "a" + one + "b", "k=a" + one} {
			for _, f := range append(leaves(), word(one), has(one), field("k", "a"+one)) {
				if match.Line(f, line) == match.Line(not(f), line) {
					t.Errorf("%v and its opposite keep %q: %v", f, line, match.Line(f, line))
				}
			}
		}
	}
}

// Of not a and not b the opposite is a or b, and so on.
func TestP9_2_OppositesOfRows(t *testing.T) {
	for _, a := range small() {
		for _, b := range small() {
			both, either, neither, notBoth := and(a, b), or(a, b), and(not(a), not(b)), or(not(a), not(b))
			for _, line := range lines {
				x, y := match.Line(a, line), match.Line(b, line)
				for _, c := range []struct {
					f    api.Filter
					want bool
				}{{both, x && y}, {either, x || y}, {neither, !x && !y}, {notBoth, !x || !y}, {not(both), !(x && y)}, {not(either), !(x || y)}, {not(neither), x || y}, {not(notBoth), x && y}} {
					if match.Line(c.f, line) != c.want {
						t.Errorf("%v keeps %q: %v", c.f, line, !c.want)
					}
				}
			}
		}
	}
}

// The laws of and and or, of all leaves three by three.
func TestP9_2_Laws(t *testing.T) {
	for _, a := range leaves() {
		same(t, and(a, a), a)
		same(t, or(a, a), a)
		same(t, and(a, yes()), a)
		same(t, or(a, no()), a)
		same(t, and(no(), a), no())
		same(t, or(yes(), a), yes())
		for _, b := range leaves() {
			same(t, and(a, b), and(b, a))
			same(t, or(a, b), or(b, a))
			same(t, and(a, or(a, b)), a)
			same(t, or(a, and(a, b)), a)
			for _, c := range leaves() {
				same(t, and(a, b, c), and(and(a, b), c))
				same(t, and(a, b, c), and(a, and(b, c)))
				same(t, or(a, b, c), or(or(a, b), c))
				same(t, or(a, b, c), or(a, or(b, c)))
				same(t, and(a, or(b, c)), or(and(a, b), and(a, c)))
				same(t, or(a, and(b, c)), and(or(a, b), or(a, c)))
				opposite(t, and(a, b, c), or(not(a), not(b), not(c)))
				opposite(t, or(a, b, c), and(not(a), not(b), not(c)))
			}
		}
	}
}

// The same kids in another order keep the same.
func TestP9_2_KidsInAnyOrder(t *testing.T) {
	r := rand.New(rand.NewSource(92))
	for range 500 {
		var kids []api.Filter
		for range 2 + r.Intn(6) {
			kids = append(kids, pick(r, small()))
		}
		other := slices.Clone(kids)
		r.Shuffle(len(other), func(i, j int) { other[i], other[j] = other[j], other[i] })
		same(t, and(kids...), and(other...))
		same(t, or(kids...), or(other...))
	}
}

func pick[T any](r *rand.Rand, list []T) T { return list[r.Intn(len(list))] }

// some is a filter that can be, of which nothing stands deeper than so.
func some(r *rand.Rand, depth int) api.Filter {
	if depth == 0 || r.Intn(8) == 0 {
		return pick(r, leaves())
	}
	op := api.Not + r.Intn(3)
	if op == api.Not {
		return not(some(r, depth-1))
	}
	f := of(op)
	for range 2 + r.Intn(2) {
		f.Kids = append(f.Kids, some(r, depth-1))
	}
	return f
}

// turned is a filter's opposite, with its nots at leaves alone.
func turned(f api.Filter) api.Filter {
	switch f.Op {
	case api.Not:
		return f.Kids[0]
	case api.And, api.Or:
		g := of(api.And + api.Or - f.Op)
		for _, kid := range f.Kids {
			g.Kids = append(g.Kids, turned(kid))
		}
		return g
	}
	return not(f)
}

// Any filters: they keep what the chapter says, and the opposite, spelt out, keeps the rest.
func TestP9_2_AnyFilters(t *testing.T) {
	r := rand.New(rand.NewSource(9))
	for range 3000 {
		f := some(r, r.Intn(8))
		g := turned(f)
		if !tree.Good(f) || !tree.Good(g) {
			t.Fatalf("%v, %v", f, g)
		}
		opposite(t, f, g)
		opposite(t, f, not(f))
		for _, line := range lines {
			if got := match.Line(f, line); got != wanted(f, line) {
				t.Errorf("%v keeps %q: %v", f, line, got)
			}
		}
	}
}
