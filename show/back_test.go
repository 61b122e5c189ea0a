package show_test

import (
	"math/rand"
	"slices"
	"strconv"
	"strings"
	"testing"

	"magpie/api"
	"magpie/lex"
	"magpie/parse"
	"magpie/show"
	"magpie/tree"
)

// parsed is the query that Parse answers of a text.
func parsed(t *testing.T, s string) api.Query {
	t.Helper()
	q, fault := parse.Parse(s)
	if fault != (api.Fault{}) {
		t.Fatalf("%s: %v", short(s), fault)
	}
	return q
}

// fails asks whether Parse answers this fault of a text.
func fails(t *testing.T, s string, want api.Fault) {
	t.Helper()
	if _, fault := parse.Parse(s); fault != want {
		t.Errorf("%s: %v, not %v", short(s), fault, want)
	}
}

// again asks whether a query's texts are parsed to it, and are their own texts again.
func again(t *testing.T, q api.Query) {
	t.Helper()
	s := show.Query(q)
	if got := parsed(t, s); !tree.Same(got, q) {
		t.Errorf("%s is parsed to %v, not %v", short(s), got, q)
	} else if back := show.Query(got); back != s {
		t.Errorf("%s becomes %s", short(s), short(back))
	}
	plain := show.Plain(q)
	q.Page = ""
	if got := parsed(t, plain); !tree.Same(got, q) || show.Query(got) != plain || show.Plain(got) != plain {
		t.Errorf("%s is parsed to %v, not %v", short(plain), got, q)
	}
}

// formed asks whether a query's text is of the form that the chapter gives it, looked at token by token: one blank between two, but for those places where none stands, and as many brackets as there are rows within others.
func formed(t *testing.T, q api.Query) {
	t.Helper()
	s := show.Query(q)
	list, fault := lex.Lex(s)
	if fault != (api.Fault{}) {
		t.Errorf("%s: %v", short(s), fault)
		return
	}
	var b strings.Builder
	open := 0
	bare := true
	for _, x := range list {
		equal := x.Says == "=" || x.Says == "!="
		if x.Kind == lex.Sign && (equal || x.Says == ")") || x.Kind == lex.End {
			bare = true
		}
		if !bare {
			b.WriteByte(' ')
		}
		bare = x.Kind == lex.Sign && (equal || x.Says == "(")
		if x.Kind == lex.Sign && x.Says == "(" {
			open++
		}
		if x.Kind == lex.Text {
			b.WriteString(lex.Quote(x.Says))
		} else {
			b.WriteString(x.Says)
		}
	}
	if b.String() != s {
		t.Errorf("%s, not %s", short(s), short(b.String()))
	}
	rows := 0
	for f, depth := range tree.All(q.Filter) {
		if depth > 0 && (f.Op == api.And || f.Op == api.Or) {
			rows++
		}
	}
	if open != rows {
		t.Errorf("%s: %d brackets, %d rows within others", short(s), open, rows)
	}
}

func TestP8_2_AllParts(t *testing.T) {
	ways("", api.Query{}, parts(), func(q api.Query, says string) {
		for _, x := range said[:20] {
			q.Page = x.s
			again(t, q)
			formed(t, q)
		}
	})
}

// A text is parsed, told, parsed and told: what is left out, or stands otherwise in it, is told in one way.
func TestP8_2_OtherTextsBecomeThisOne(t *testing.T) {
	const want = `from -5 to 9 where a="x" where b!="y" find (word "a" and not (field k="v" or has "z")) or false desc limit 7 page "p"`
	for _, s := range []string{
		want,
		`from -5 to 9 where a="x" where b!="y" find word "a" and not (field k="v" or has "z") or false desc limit 7 page "p"`,
		`from-5 to 9 where a="x"where b!="y"find word"a"and not(field k="v"or has"z")or false desc limit 7 page"p"`,
		`   from   -5   to   9   where   a   =   "x"   where   b   !=   "y"   find ( ( (word  "a"   and  (not   (  field   k   =   "v"   or   has   "z"   ))) or ((false))))   desc   limit   7   page   "p"   `,
	} {
		q := parsed(t, s)
		if got := show.Query(q); got != want {
			t.Errorf("%s becomes %s", s, got)
		}
		if got := show.Plain(q); got+` page "p"` != want {
			t.Errorf("%s becomes %s", s, got)
		}
		again(t, q)
		formed(t, q)
	}
	for s, want := range map[string]string{
		`from 0 to 9 find true limit 1 page ""`:                                        "from 0 to 9 limit 1",
		"from 0 to 9 find ((true)) limit 1":                                            "from 0 to 9 limit 1",
		"from 0 to 9 find not(true)limit 1":                                            "from 0 to 9 find not true limit 1",
		`from 0 to 9 find (not (not (word "a"))) limit 1`:                              `from 0 to 9 find not not word "a" limit 1`,
		`from 0 to 9 find word "a" or word "b" and word "c" limit 1`:                   `from 0 to 9 find word "a" or (word "b" and word "c") limit 1`,
		`from 0 to 9 find (word "a" or word "b" or (word "c" or word "d")) limit 1`:    `from 0 to 9 find word "a" or word "b" or (word "c" or word "d") limit 1`,
		`from 0 to 9 find ((word "a" and word "b") and not (not word "c")) limit 1`:    `from 0 to 9 find (word "a" and word "b") and not not word "c" limit 1`,
		`from 0 to 9 where from1 = "" where from1 = "" find field From = "(" limit 50`: `from 0 to 9 where from1="" where from1="" find field From="(" limit 50`,
	} {
		q := parsed(t, s)
		if got := show.Query(q); got != want {
			t.Errorf("%s becomes %s, not %s", s, got, want)
		}
		again(t, q)
	}
}

func TestP8_2_Bounds(t *testing.T) {
	const most = 1 << 40
	for _, times := range [][2]int{{-most, -most}, {-most, most}, {most, most}, {0, 0}, {-1, 0}, {-1, -1}, {0, 1}, {-10, 100}} {
		for _, limit := range []int{1, 9, 10, 49, 50} {
			q := api.Query{From: times[0], To: times[1], Filter: yes(), Limit: limit}
			again(t, q)
			formed(t, q)
		}
	}
}

func TestP8_2_Texts(t *testing.T) {
	for _, x := range said[:24] {
		q := finds(and(word(x.s), has(x.s), not(field("k", x.s))))
		q.Match = []api.Matcher{{Name: "a", Value: x.s}, {Name: "a", Not: true, Value: x.s}}
		q.Page = x.s
		again(t, q)
		formed(t, q)
	}
	for c := rune(0); c < 0x3000; c++ {
		if c == '\n' {
			continue
		}
		s := string(c)
		q := finds(or(has(s), word("a"+s), field("k", s+s)))
		q.Match = []api.Matcher{{Name: "a", Value: s}}
		q.Page = s
		again(t, q)
	}
}

// Up to 2^10 bytes a text is parsed again; with one more it is told still, but too long a query.
func TestP8_2_Longest(t *testing.T) {
	for _, to := range []struct {
		q    api.Query
		grow func(q *api.Query, n int)
	}{
		{finds(yes()), func(q *api.Query, n int) { q.Page = strings.Repeat("p", n) }},
		{finds(word("")), func(q *api.Query, n int) { q.Filter.Text = strings.Repeat("w", n) }},
		{finds(and(yes(), or(no(), has("é")))), func(q *api.Query, n int) {
			q.Filter.Kids[1].Kids[1].Text = strings.Repeat("é", n/2) + strings.Repeat("e", n%2)
		}},
		{api.Query{Match: []api.Matcher{{Name: "a"}}, Filter: yes(), Limit: 1}, func(q *api.Query, n int) { q.Match[0].Value = strings.Repeat(`"`, n/2) + strings.Repeat("q", n%2) }},
	} {
		to.grow(&to.q, 2)
		ahead := len(show.Query(to.q)) - 2
		for n := api.MaxQuery - 3; n <= api.MaxQuery+3; n++ {
			to.grow(&to.q, n-ahead)
			s := show.Query(to.q)
			if len(s) != n {
				t.Fatalf("%s: %d bytes, not %d", short(s), len(s), n)
			}
			if n <= api.MaxQuery {
				again(t, to.q)
			} else {
				fails(t, s, api.Fault{Err: api.ErrLimit, At: 1})
			}
		}
	}
}

// What is parsed of a text that isn't too long may have one that is: by brackets, and by blanks.
func TestP8_2_LongerThanParsed(t *testing.T) {
	for n := 50; n < 72; n++ {
		s := base + "find " + strings.Repeat("true and true or ", n)[:17*n-4] + " limit 1"
		if len(s) > api.MaxQuery {
			break
		}
		want := base + "find " + strings.Repeat("(true and true) or ", n)[:19*n-4] + " limit 1"
		q := parsed(t, s)
		shows(t, q, want, "")
		if len(want) <= api.MaxQuery {
			again(t, q)
		} else {
			fails(t, want, api.Fault{Err: api.ErrLimit, At: 1})
		}
	}
	s := base + "find " + strings.Repeat(`has"a"or `, 100) + `has"b"limit 1`
	want := base + "find " + strings.Repeat(`has "a" or `, 100) + `has "b" limit 1`
	shows(t, parsed(t, s), want, "")
	fails(t, want, api.Fault{Err: api.ErrLimit, At: 1})
}

// within is a filter with n nots and rows around it, within one another, as bits say which.
func within(n, bits int, f api.Filter) api.Filter {
	for i := range n {
		row := f.Op == api.And || f.Op == api.Or
		switch {
		case bits>>i&1 == 1 && !row:
			f = not(f)
		case i%2 == 0:
			f = and(no(), f)
		default:
			f = or(f, has("("), no())
		}
	}
	return f
}

// deepest is how many nots and brackets stand within one another in a filter's text.
func deepest(f api.Filter) int {
	most := 0
	for _, kid := range f.Kids {
		n := deepest(kid)
		if kid.Op == api.And || kid.Op == api.Or {
			n++
		}
		most = max(most, n)
	}
	if f.Op == api.Not {
		most++
	}
	return most
}

// Eight nots and brackets within one another are parsed again; nine are told still, but too many.
func TestP8_2_Deepest(t *testing.T) {
	seen := map[int]int{}
	for n := range 13 {
		for bits := range 1 << n {
			f := within(n, bits, word("a"))
			depth := deepest(f)
			seen[depth]++
			if depth <= 8 {
				again(t, finds(f))
				formed(t, finds(f))
				continue
			}
			if _, fault := parse.Parse(show.Query(finds(f))); fault.Err != api.ErrLimit {
				t.Errorf("%s: %v", show.Filter(f), fault)
			}
		}
	}
	if seen[8] == 0 || seen[9] == 0 {
		t.Errorf("%v", seen)
	}
	f, s := word("a"), `word "a"`
	for range 8 {
		f, s = not(f), "not "+s
		again(t, finds(f))
	}
	shows(t, finds(not(f)), base+"find not "+s+" limit 1", "")
	fails(t, show.Query(finds(not(f))), api.Fault{Err: api.ErrLimit, At: len(base+"find ") + 8*4 + 1})
}

// What is parsed of a text with eight brackets may have one with nine: where an and stands in an or without.
func TestP8_2_DeeperThanParsed(t *testing.T) {
	s := base + "find " + strings.Repeat("false or (", 8) + "false or true and true" + strings.Repeat(")", 8) + " limit 1"
	want := base + "find " + strings.Repeat("false or (", 9) + "true and true" + strings.Repeat(")", 9) + " limit 1"
	shows(t, parsed(t, s), want, "")
	fails(t, want, api.Fault{Err: api.ErrLimit, At: len(base+"find ") + 90})
	s = base + "find " + strings.Repeat("false or (", 7) + "false or true and true" + strings.Repeat(")", 7) + " limit 1"
	again(t, parsed(t, s))
}

// pieces are tokens of all kinds that a filter has.
var pieces = []string{"true", "false", `word "a"`, `has "b c"`, `field k=""`, "not", "(", ")", "and", "or"}

// All texts of few tokens that are filters.
func TestP8_2_AllFilters(t *testing.T) {
	n := 0
	var follow func(says []string, rest int)
	follow = func(says []string, rest int) {
		s := base + "find " + strings.Join(says, " ")
		if q, fault := parse.Parse(s + " limit 1"); fault == (api.Fault{}) {
			n++
			again(t, q)
			formed(t, q)
		}
		// A text that is wrong ahead of its end goes on to none.
		if _, fault := parse.Parse(s); rest == 0 || fault.At <= len(s) {
			return
		}
		for _, p := range pieces {
			follow(append(slices.Clone(says), p), rest-1)
		}
	}
	follow(nil, 7)
	if n < 10000 {
		t.Errorf("only %d filters", n)
	}
}

// somewhat is a text of a filter, with brackets and nots at will, of which it may have so many within one another.
func somewhat(r *rand.Rand, depth int) string {
	var b strings.Builder
	for i := range 1 + r.Intn(4) {
		if i > 0 {
			b.WriteString(pick(r, []string{" and ", " or ", "  or  "}))
		}
		left := depth
		for left > 0 && r.Intn(3) == 0 {
			left--
			b.WriteString("not ")
		}
		if left > 0 && r.Intn(2) == 0 {
			b.WriteString("(" + somewhat(r, left-1) + ")")
		} else {
			b.WriteString(pick(r, pieces[:5]))
		}
	}
	return b.String()
}

// Any queries that Parse answers: their texts are parsed to them, if they may be that long and deep, and have the chapter's form, if they may be that long.
func TestP8_2_AnyQueries(t *testing.T) {
	r := rand.New(rand.NewSource(82))
	n := 0
	for range 40000 {
		s := "from " + strconv.Itoa(r.Intn(20)-10) + " to " + strconv.Itoa(10+r.Intn(1<<40))
		for range r.Intn(5) {
			s += " where " + pick(r, []string{"a", "b", "_"}) + pick(r, []string{"=", "!=", " = "}) + lex.Quote(pick(r, said[:20]).s)
		}
		s += " find " + somewhat(r, r.Intn(9)) + pick(r, []string{"", " desc"}) + " limit " + strconv.Itoa(1+r.Intn(50)) + pick(r, []string{"", ` page ""`, ` page "\"p"`})
		if len(s) > api.MaxQuery {
			continue
		}
		q := parsed(t, s)
		text := show.Query(q)
		if len(text) > api.MaxQuery {
			fails(t, text, api.Fault{Err: api.ErrLimit, At: 1})
			continue
		}
		formed(t, q)
		if deepest(q.Filter) <= 8 {
			n++
			again(t, q)
		} else if _, fault := parse.Parse(text); fault.Err != api.ErrLimit {
			t.Errorf("%s: %v", text, fault)
		}
	}
	if n < 10000 {
		t.Errorf("only %d queries", n)
	}
}
