package norm_test

import (
	"slices"
	"strconv"
	"strings"
	"testing"

	"magpie/api"
	"magpie/norm"
	"magpie/parse"
	"magpie/show"
	"magpie/tree"
)

func of(op int, kids ...api.Filter) api.Filter { return api.Filter{Op: op, Kids: kids} }

func yes() api.Filter { return of(api.True) }

func no() api.Filter { return of(api.False) }

func word(s string) api.Filter { return api.Filter{Op: api.Word, Text: s} }

func has(s string) api.Filter { return api.Filter{Op: api.Has, Text: s} }

func field(name, text string) api.Filter {
	return api.Filter{Op: api.Field, Name: name, Text: text}
}

func not(f api.Filter) api.Filter { return of(api.Not, f) }

func and(kids ...api.Filter) api.Filter { return of(api.And, kids...) }

func or(kids ...api.Filter) api.Filter { return of(api.Or, kids...) }

// nots is a filter within so many nots.
func nots(n int, f api.Filter) api.Filter {
	for range n {
		f = not(f)
	}
	return f
}

// opposite is the plain form of not of a filter that is in its plain form.
func opposite(f api.Filter) api.Filter {
	turned := map[int]int{api.True: api.False, api.False: api.True, api.And: api.Or, api.Or: api.And}[f.Op]
	switch {
	case f.Op == api.Not:
		return f.Kids[0]
	case turned == 0:
		return not(f)
	}
	g := of(turned)
	for _, kid := range f.Kids {
		g.Kids = append(g.Kids, opposite(kid))
	}
	return g
}

// short is a filter as a message tells it.
func short(f api.Filter) string {
	s := show.Filter(f)
	if len(s) > 400 {
		return s[:300] + " .. " + s[len(s)-80:]
	}
	return strconv.Quote(s)
}

// answers asks whether a filter's plain form is that one, alone and in a query.
func answers(t *testing.T, f, want api.Filter) {
	t.Helper()
	if !tree.Good(f) {
		t.Fatalf("%s can't be", short(f))
	}
	got := norm.Filter(f)
	if !tree.Filter(got, want) {
		t.Errorf("%s: %s, not %s", short(f), short(got), short(want))
	}
	if !tree.Good(got) {
		t.Errorf("%s: %s, which can't be", short(f), short(got))
	}
	if q := norm.Query(api.Query{Filter: f}); !tree.Same(q, api.Query{Filter: want}) {
		t.Errorf("a query with %s: %v", short(f), q)
	}
}

// plain asks whether a filter's plain form is that one, that of not of it the opposite, and that of both within others what they ask for; and whether each is its own.
func plain(t *testing.T, f, want api.Filter) {
	t.Helper()
	answers(t, f, want)
	answers(t, want, want)
	turned := opposite(want)
	for _, c := range []struct{ f, want api.Filter }{
		{not(f), turned}, {not(not(f)), want}, {nots(3, f), turned},
		{and(f, yes()), want}, {and(yes(), f), want}, {and(yes(), f, yes()), want}, {or(f, no()), want}, {or(no(), f), want}, {or(no(), not(f), no()), turned},
		{and(f, no()), no()}, {and(no(), f), no()}, {or(f, yes()), yes()}, {or(yes(), f), yes()},
		{not(and(f, yes())), turned}, {not(or(no(), f)), turned}, {not(and(f, no())), yes()}, {not(or(yes(), f)), no()},
	} {
		if tree.Good(c.f) {
			answers(t, c.f, c.want)
		}
	}
}

// leaves are filters without kids, of each kind, of texts of any bytes.
func leaves() []api.Filter {
	return []api.Filter{
		yes(), no(), word("a"), word(""), word("a b"), word("\xff\n"), has("a"), has(""), has("\x00"), has(strings.Repeat("x", 5000)),
		field("k", "v"), field("k", ""), field("_", "a=b"), field(strings.Repeat("n", 20), "\n\xff"),
	}
}

// alone are those of leaves at which a not stays.
func alone() []api.Filter { return leaves()[2:] }

func TestP10_1_EachKindAlone(t *testing.T) {
	for _, f := range leaves() {
		plain(t, f, f)
	}
}

func TestP10_1_NotOfEachKind(t *testing.T) {
	plain(t, not(yes()), no())
	plain(t, not(no()), yes())
	for _, f := range alone() {
		plain(t, not(f), not(f))
		plain(t, not(not(f)), f)
		for _, g := range alone() {
			plain(t, not(and(f, g)), or(not(f), not(g)))
			plain(t, not(or(f, g)), and(not(f), not(g)))
			plain(t, not(and(not(f), g, g)), or(f, not(g), not(g)))
			plain(t, not(or(f, not(g), f)), and(not(f), g, not(f)))
		}
	}
}

func TestP10_1_SeveralNots(t *testing.T) {
	for n := range 2*api.MaxDepth + 3 {
		for _, f := range leaves() {
			if n%2 == 0 {
				plain(t, nots(n, f), f)
			} else {
				plain(t, nots(n, f), opposite(f))
			}
		}
	}
	a, b := word("a"), has("b")
	for n := range 2*api.MaxDepth + 1 {
		want := []api.Filter{and(a, not(b)), or(not(a), b)}[n%2]
		plain(t, nots(n, and(a, not(b))), want)
		plain(t, nots(n, or(a, not(b))), []api.Filter{or(a, not(b)), and(not(a), b)}[n%2])
	}
}

// said tells the plain form of a filter by its text.
func said(t *testing.T, s, want string) {
	t.Helper()
	q, fault := parse.Parse("from 0 to 9 find " + s + " limit 5")
	if fault != (api.Fault{}) {
		t.Fatalf("%s: %v", s, fault)
	}
	if got := show.Filter(norm.Filter(q.Filter)); got != want {
		t.Errorf("%s: %s, not %s", s, got, want)
	}
	w, fault := parse.Parse("from 0 to 9 find " + want + " limit 5")
	if fault != (api.Fault{}) {
		t.Fatalf("%s: %v", want, fault)
	}
	plain(t, q.Filter, w.Filter)
}

func TestP10_1_Said(t *testing.T) {
	for _, c := range [][2]string{
		// The chapter's own.
		{`not (word "a" and not has "b")`, `not word "a" or has "b"`},
		// Two and more kids, each kind.
		{`word "a" and has "b"`, `word "a" and has "b"`}, {`word "a" or has "b" or field k="v"`, `word "a" or has "b" or field k="v"`}, {`not word "a" and not has "b" and not field k="v"`, `not word "a" and not has "b" and not field k="v"`},
		// Within the other kind.
		{`word "a" and (word "b" or word "c")`, `word "a" and (word "b" or word "c")`}, {`word "a" or word "b" and word "c"`, `word "a" or (word "b" and word "c")`}, {`(word "a" or word "b") and (word "c" or word "d")`, `(word "a" or word "b") and (word "c" or word "d")`},
		// Within its own kind: first, between, last, several, several deep.
		{`(word "a" and word "b") and word "c"`, `word "a" and word "b" and word "c"`}, {`word "a" and (word "b" and word "c") and word "d"`, `word "a" and word "b" and word "c" and word "d"`}, {`word "a" or (word "b" or word "c")`, `word "a" or word "b" or word "c"`}, {`(word "a" or word "b") or (word "c" or word "d")`, `word "a" or word "b" or word "c" or word "d"`},
		{`word "a" and (word "b" and (word "c" and (word "d" and word "e")))`, `word "a" and word "b" and word "c" and word "d" and word "e"`}, {`(((word "a" or word "b") or word "c") or word "d") or word "e"`, `word "a" or word "b" or word "c" or word "d" or word "e"`}, {`word "a" or (word "b" or (word "c" and word "d"))`, `word "a" or word "b" or (word "c" and word "d")`}, {`word "a" and (word "b" or (word "c" and (word "d" and word "e")))`, `word "a" and (word "b" or (word "c" and word "d" and word "e"))`},
		// Of their own kind only by a not ahead of them.
		{`word "a" and not (word "b" or word "c")`, `word "a" and not word "b" and not word "c"`}, {`word "a" or not (word "b" and not word "c")`, `word "a" or not word "b" or word "c"`}, {`not (word "a" and word "b") or word "c"`, `not word "a" or not word "b" or word "c"`}, {`not (word "a" and not (word "b" and word "c"))`, `not word "a" or (word "b" and word "c")`}, {`not (word "a" and not (word "b" or word "c"))`, `not word "a" or word "b" or word "c"`}, {`word "a" and not not (word "b" and word "c")`, `word "a" and word "b" and word "c"`}, {`word "a" and not (word "b" and word "c")`, `word "a" and (not word "b" or not word "c")`},
		{`not (not (word "a" and word "b") or not (word "c" and word "d"))`, `word "a" and word "b" and word "c" and word "d"`}, {`not (not (word "a" or word "b") or word "c")`, `(word "a" or word "b") and not word "c"`},
		// Of their own kind only since others are left out of what is around them.
		{`word "a" and ((word "b" and word "c") or false)`, `word "a" and word "b" and word "c"`}, {`word "a" or (true and (word "b" or word "c"))`, `word "a" or word "b" or word "c"`}, {`word "a" and (false or not (word "b" or word "c" or false))`, `word "a" and not word "b" and not word "c"`}, {`(word "a" or word "b") and (true or word "c")`, `word "a" or word "b"`}, {`((word "a" or word "b") and true) or word "c"`, `word "a" or word "b" or word "c"`},
		// True and False.
		{`true and true`, `true`}, {`true and false`, `false`}, {`false and true`, `false`}, {`false and false`, `false`}, {`true or true`, `true`}, {`true or false`, `true`}, {`false or true`, `true`}, {`false or false`, `false`}, {`true and true and true and true`, `true`}, {`false or false or false`, `false`},
		{`word "a" and true and word "b"`, `word "a" and word "b"`}, {`true and word "a" and true and word "b" and true`, `word "a" and word "b"`}, {`word "a" or false or word "b"`, `word "a" or word "b"`}, {`false or false or word "a" or false`, `word "a"`}, {`true and true and not word "a"`, `not word "a"`}, {`word "a" and word "b" and false`, `false`}, {`false and word "a" and true`, `false`}, {`word "a" or true or word "b" or false`, `true`}, {`word "a" and not true`, `false`}, {`word "a" and not false`, `word "a"`}, {`word "a" or not false`, `true`}, {`word "a" or not true`, `word "a"`},
		// True and False that come about within.
		{`word "a" and (word "b" or true)`, `word "a"`}, {`word "a" and (word "b" and false)`, `false`}, {`word "a" or (word "b" and false)`, `word "a"`}, {`word "a" or (word "b" or not false)`, `true`}, {`word "a" and (word "b" and (word "c" and (word "d" and false)))`, `false`}, {`word "a" and (true and true)`, `word "a"`}, {`(false or false) or (true and false)`, `false`}, {`not (word "a" and (word "b" or true))`, `not word "a"`}, {`not (word "a" or not (word "b" and false))`, `false`}, {`word "c" and (word "a" or (word "b" and (true and false)))`, `word "c" and word "a"`},
		// The order of kids, and the same one twice.
		{`word "c" and word "a" and word "b"`, `word "c" and word "a" and word "b"`}, {`(word "d" or word "c") or (word "b" or word "a")`, `word "d" or word "c" or word "b" or word "a"`}, {`word "a" and word "a"`, `word "a" and word "a"`}, {`word "a" or word "a" or word "a"`, `word "a" or word "a" or word "a"`}, {`word "a" and (word "b" and word "a")`, `word "a" and word "b" and word "a"`}, {`not (word "a" and word "a")`, `not word "a" or not word "a"`}, {`word "a" and not word "a"`, `word "a" and not word "a"`}, {`word "a" or not word "a"`, `word "a" or not word "a"`}, {`(word "a" or word "b") and (word "a" or word "b")`, `(word "a" or word "b") and (word "a" or word "b")`},
	} {
		said(t, c[0], c[1])
	}
}

// piece is a kid, and what is left of it in an And, and in an Or: itself, its kids, or none; ends: the kind of rows that is over with it.
type piece struct {
	kid     api.Filter
	and, or []api.Filter
	ends    int
}

// pieces are kids of each kind, those which become it only by a not, too.
func pieces() []piece {
	a, b, c := word("a"), has("b"), field("k", "c")
	list := func(kids ...api.Filter) []api.Filter { return kids }
	return []piece{
		{kid: yes(), ends: api.Or}, {kid: no(), ends: api.And}, {kid: a, and: list(a), or: list(a)}, {kid: not(b), and: list(not(b)), or: list(not(b))},
		{kid: and(a, b), and: list(a, b), or: list(and(a, b))}, {kid: or(a, b, c), and: list(or(a, b, c)), or: list(a, b, c)},
		{kid: not(or(a, not(b))), and: list(not(a), b), or: list(and(not(a), b))}, {kid: not(and(b, a)), and: list(or(not(b), not(a))), or: list(not(b), not(a))},
		{kid: not(and(yes(), not(c))), and: list(c), or: list(c)},
	}
}

// rowOf is, by the chapter, what is left of a row of pieces.
func rowOf(op int, row []piece) api.Filter {
	f := of(op)
	for _, p := range row {
		if p.ends == op {
			return p.kid
		}
		f.Kids = append(f.Kids, map[int][]api.Filter{api.And: p.and, api.Or: p.or}[op]...)
	}
	if len(f.Kids) == 0 {
		return map[int]api.Filter{api.And: yes(), api.Or: no()}[op]
	}
	if len(f.Kids) == 1 {
		return f.Kids[0]
	}
	return f
}

// Rows of two to four kids, each of each kind.
func TestP10_1_RowsOfEachKind(t *testing.T) {
	for n := 2; n <= 4; n++ {
		ways := 1
		for range n {
			ways *= len(pieces())
		}
		for way := range ways {
			var row []piece
			var kids []api.Filter
			for ; len(row) < n; way /= len(pieces()) {
				row = append(row, pieces()[way%len(pieces())])
				kids = append(kids, row[len(row)-1].kid)
			}
			answers(t, and(kids...), rowOf(api.And, row))
			answers(t, or(kids...), rowOf(api.Or, row))
			answers(t, not(and(kids...)), opposite(rowOf(api.And, row)))
			answers(t, not(or(kids...)), opposite(rowOf(api.Or, row)))
		}
	}
}

// Long rows, with others left out, or ending them, at each end and within.
func TestP10_1_LongRows(t *testing.T) {
	for _, n := range []int{2, 3, 64, 1000, 1 << 14} {
		var kids, turned []api.Filter
		for i := range n {
			kids = append(kids, word(strconv.Itoa(i)))
			turned = append(turned, not(kids[i]))
		}
		answers(t, and(kids...), and(kids...))
		answers(t, not(and(kids...)), or(turned...))
		answers(t, or(turned...), or(turned...))
		answers(t, not(or(turned...)), and(kids...))
		answers(t, or(or(kids...), or(turned...)), or(slices.Concat(kids, turned)...))
		answers(t, and(slices.Repeat([]api.Filter{yes()}, n)...), yes())
		answers(t, or(slices.Repeat([]api.Filter{no()}, n)...), no())
		answers(t, and(slices.Repeat(kids[:1], n)...), and(slices.Repeat(kids[:1], n)...))
		for _, at := range []int{0, 1, n / 2, n} {
			with := func(f api.Filter) []api.Filter { return slices.Insert(slices.Clone(kids), at, f) }
			answers(t, and(with(yes())...), and(kids...))
			answers(t, or(with(no())...), or(kids...))
			answers(t, and(with(no())...), no())
			answers(t, or(with(yes())...), yes())
			answers(t, and(with(and(word("x"), word("y")))...), and(slices.Insert(slices.Clone(kids), at, word("x"), word("y"))...))
			answers(t, and(with(or(word("x"), word("y")))...), and(with(or(word("x"), word("y")))...))
		}
	}
}

// Filters that stand as deep as they may.
func TestP10_1_Deep(t *testing.T) {
	a, b, c := word("a"), has("b"), field("k", "c")
	first, last, both, mixed, idle, ended, ruled := a, a, a, a, a, no(), yes()
	flat, back := []api.Filter{a}, []api.Filter{a}
	for n := 1; n <= 2*api.MaxDepth+2; n++ {
		first, last, both = and(first, b), or(b, last), and(b, both, c)
		flat, back = append(flat, b), append(back, c)
		around := append(slices.Repeat([]api.Filter{b}, n), back...)
		if n%2 == 0 {
			mixed, idle, ended, ruled = and(mixed, b), and(yes(), idle), and(ended, b), and(yes(), ruled)
		} else {
			mixed, idle, ended, ruled = or(c, mixed), or(idle, no(), no()), or(no(), ended), or(c, ruled, b)
		}
		for _, x := range [][2]api.Filter{
			{first, and(flat...)}, {last, or(append(slices.Repeat([]api.Filter{b}, n), a)...)}, {both, and(around...)}, {mixed, mixed}, {idle, a}, {ended, no()}, {ruled, yes()},
		} {
			plain(t, x[0], x[1])
		}
	}
}

// A not ahead of each row: what is within becomes a row of the one around, or stays one within it.
func TestP10_1_DeepByNots(t *testing.T) {
	a, b := word("a"), has("b")
	one, other, flat, turned := a, a, []api.Filter{a}, []api.Filter{a}
	for n := 1; n <= api.MaxDepth; n++ {
		if n%2 == 1 {
			one, flat = not(or(one, b)), []api.Filter{opposite(row(api.And, flat)), not(b)}
		} else {
			one, flat = not(or(b, one)), []api.Filter{not(b), opposite(row(api.And, flat))}
		}
		plain(t, one, row(api.And, flat))
		other, turned = not(and(not(or(b, other)), yes())), append([]api.Filter{b}, turned...)
		if tree.Good(other) {
			plain(t, other, or(turned...))
		}
	}
}

// row is a row of that kind, or its only kid.
func row(op int, kids []api.Filter) api.Filter {
	if len(kids) == 1 {
		return kids[0]
	}
	return of(op, kids...)
}

// A filter's plain form hangs on the filter alone, however often it is asked for.
func TestP10_1_HangsOnNothingElse(t *testing.T) {
	f := not(and(word("a"), or(has("b"), not(field("k", "v"))), yes()))
	want := or(not(word("a")), and(not(has("b")), field("k", "v")))
	for range 3 {
		plain(t, f, want)
		for _, g := range leaves() {
			norm.Filter(not(g))
			norm.Query(api.Query{Filter: and(g, f)})
		}
	}
}
