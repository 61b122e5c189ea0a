package parse_test

import (
	"slices"
	"strconv"
	"strings"
	"testing"

	"magpie/api"
	"magpie/lex"
	"magpie/parse"
	"magpie/tree"
)

// base is the least that a query has ahead of its limit.
const base = "from 0 to 9 "

func of(op int, kids ...api.Filter) api.Filter { return api.Filter{Op: op, Kids: kids} }

func yes() api.Filter { return of(api.True) }

func no() api.Filter { return of(api.False) }

func word(s string) api.Filter { return api.Filter{Op: api.Word, Text: s} }

func has(s string) api.Filter { return api.Filter{Op: api.Has, Text: s} }

func field(name, text string) api.Filter {
	return api.Filter{Op: api.Field, Name: name, Text: text}
}

func not(f api.Filter) api.Filter { return of(api.Not, f) }

// finds is the query of base, a filter, and limit 1.
func finds(f api.Filter) api.Query { return api.Query{To: 9, Filter: f, Limit: 1} }

// short is a text as a message tells it.
func short(s string) string {
	if len(s) > 300 {
		return strconv.Quote(s[:200]) + ".." + strconv.Quote(s[len(s)-80:])
	}
	return strconv.Quote(s)
}

// answers asks whether Parse answers this query, and no fault.
func answers(t *testing.T, s string, want api.Query) {
	t.Helper()
	q, fault := parse.Parse(s)
	if fault != (api.Fault{}) {
		t.Errorf("%s: %v", short(s), fault)
	} else if !tree.Same(q, want) {
		t.Errorf("%s: %v, not %v", short(s), q, want)
	}
}

// fails asks whether Parse answers this fault, and no query.
func fails(t *testing.T, s string, err api.Errno, at int) {
	t.Helper()
	q, fault := parse.Parse(s)
	if want := (api.Fault{Err: err, At: at}); fault != want {
		t.Errorf("%s: %v, not %v", short(s), fault, want)
	}
	if !tree.Same(q, api.Query{}) {
		t.Errorf("%s: a query beside a fault: %v", short(s), q)
	}
}

// part is some letters of a query, and what they make of it.
type part struct {
	says string
	make func(q *api.Query)
}

// parts are the ways in which each part of a query may be there, or be left out.
func parts() [][]part {
	none := part{"", func(q *api.Query) {}}
	match := func(says string, list ...api.Matcher) part {
		return part{says, func(q *api.Query) { q.Match = list }}
	}
	find := func(says string, f api.Filter) part {
		return part{says, func(q *api.Query) { q.Filter = f }}
	}
	a, b := api.Matcher{Name: "a", Value: "x"}, api.Matcher{Name: "b", Not: true, Value: ""}
	return [][]part{
		{{"from 0 to 9", func(q *api.Query) { q.To = 9 }}, {"from -7 to -7", func(q *api.Query) { q.From, q.To = -7, -7 }}},
		{none, match(`where a="x"`, a), match(`where b!=""`, b), match(`where a = "x" where b != ""`, a, b), match(`where b!="" where a="x" where a="x"`, b, a, a), match(`where a="x" where a="x" where b!="" where b!=""`, a, a, b, b)},
		{none, find("find true", yes()), find("find false", no()), find(`find not has "x"`, not(has("x"))), find(`find word "a" and has "" or field k="v"`, of(api.Or, of(api.And, word("a"), has("")), field("k", "v")))},
		{none, {"desc", func(q *api.Query) { q.Desc = true }}},
		{{"limit 1", func(q *api.Query) { q.Limit = 1 }}, {"limit 50", func(q *api.Query) { q.Limit = 50 }}},
		{none, {`page ""`, func(q *api.Query) {}}, {`page "p"`, func(q *api.Query) { q.Page = "p" }}, {`page "from \"0\""`, func(q *api.Query) { q.Page = `from "0"` }}},
	}
}

// Each part of a query there and left out, together with each way of all others.
func TestP7_1_AllParts(t *testing.T) {
	var add func(says []string, q api.Query, rest [][]part)
	add = func(says []string, q api.Query, rest [][]part) {
		if len(rest) == 0 {
			answers(t, strings.Join(says, " "), q)
			return
		}
		for _, p := range rest[0] {
			g := q
			p.make(&g)
			if p.says == "" {
				add(says, g, rest[1:])
			} else {
				add(append(slices.Clone(says), p.says), g, rest[1:])
			}
		}
	}
	add(nil, api.Query{Filter: yes()}, parts())
}

func TestP7_1_WithoutFindDescPage(t *testing.T) {
	q, fault := parse.Parse("from 0 to 0 limit 1")
	if fault != (api.Fault{}) || q.From != 0 || q.To != 0 || len(q.Match) != 0 || q.Desc || q.Limit != 1 || q.Page != "" {
		t.Errorf("%v, %v", q, fault)
	}
	if f := q.Filter; f.Op != api.True || f.Name != "" || f.Text != "" || len(f.Kids) != 0 {
		t.Errorf("%v", f)
	}
	answers(t, base+"find true limit 1", finds(yes()))
	answers(t, base+`limit 1 page ""`, finds(yes()))
}

// What stands between tokens, as layer 5 has it, is all the same.
func TestP7_1_Blanks(t *testing.T) {
	want := api.Query{From: -5, To: 9, Match: []api.Matcher{{Name: "a", Value: "x"}, {Name: "b", Not: true, Value: "y"}}, Filter: of(api.And, word("a"), not(of(api.Or, field("k", "v"), has("z")))), Desc: true, Limit: 7, Page: "p"}
	for _, s := range []string{
		`from -5 to 9 where a="x" where b!="y" find word "a" and not (field k="v" or has "z") desc limit 7 page "p"`,
		`from-5 to 9 where a="x"where b!="y"find word"a"and not(field k="v"or has"z")desc limit 7 page"p"`,
		`   from   -5   to   9   where   a   =   "x"   where   b   !=   "y"   find   word   "a"   and   not   (   field   k   =   "v"   or   has   "z"   )   desc   limit   7   page   "p"   `,
	} {
		answers(t, s, want)
	}
	fails(t, "from -5to 9 limit 7", api.ErrLex, 6)
	fails(t, "from -5 to 9limit 7", api.ErrLex, 12)
	fails(t, "from\t-5 to 9 limit 7", api.ErrLex, 5)
	fails(t, "from -5 to 9\nlimit 7", api.ErrLex, 13)
}

func TestP7_1_Matchers(t *testing.T) {
	for _, name := range []string{"a", "_", "A9", "From", "froms", "xlimit", strings.Repeat("x", 20)} {
		for _, value := range []string{"", "x", " ", `"`, `\`, "where", "é\t\x00", "=", strings.Repeat("v", 300)} {
			want := finds(yes())
			want.Match = []api.Matcher{{Name: name, Value: value}}
			answers(t, base+"where "+name+"="+lex.Quote(value)+" limit 1", want)
			want.Match = []api.Matcher{{Name: name, Not: true, Value: value}}
			answers(t, base+"where "+name+"!="+lex.Quote(value)+" limit 1", want)
		}
	}
}

// No where, one, and up to four, with = and !=, in all ways; a fifth one is too many, and whatever stands behind it isn't looked at.
func TestP7_1_HowManyMatchers(t *testing.T) {
	for n := range 5 {
		for bits := range 1 << n {
			s, want := base, finds(yes())
			for i := range n {
				m := api.Matcher{Name: string(rune('a' + i)), Not: bits>>i&1 == 1, Value: strconv.Itoa(i)}
				sign := "="
				if m.Not {
					sign = "!="
				}
				s += "where " + m.Name + sign + lex.Quote(m.Value) + " "
				want.Match = append(want.Match, m)
			}
			answers(t, s+"limit 1", want)
			if n < 4 {
				continue
			}
			for _, behind := range []string{"", `a="4" limit 1`, `a!="4" where b="5" limit 1`, "limit 1", "where", `"x"`, "from", ")", "a b"} {
				fails(t, s+"where "+behind, api.ErrLimit, len(s)+1)
			}
		}
	}
	four := base + strings.Repeat(`where a="x" `, 4)
	// Where it can't stand a fifth one is no matter of how many there are.
	fails(t, four+`find true where a="x" limit 1`, api.ErrSyntax, len(four)+11)
	fails(t, four+`desc where a="x" limit 1`, api.ErrSyntax, len(four)+6)
	fails(t, four+`limit 1 where a="x"`, api.ErrSyntax, len(four)+9)
	fails(t, four+`find where`, api.ErrSyntax, len(four)+6)
}

func TestP7_1_Filters(t *testing.T) {
	a, b, c, d := word("a"), word("b"), word("c"), word("d")
	wa, wb, wc, wd := `word "a"`, `word "b"`, `word "c"`, `word "d"`
	for _, x := range []struct {
		s string
		f api.Filter
	}{
		{"true", yes()}, {"false", no()}, {wa, a}, {`word ""`, word("")}, {`has "a"`, has("a")}, {`has ""`, has("")}, {`has "a\"b"`, has(`a"b`)}, {`field k="v"`, field("k", "v")}, {`field k = ""`, field("k", "")}, {`word "word"`, word("word")}, {`has "("`, has("(")}, {`field True="true"`, field("True", "true")},
		{"not true", not(yes())}, {"not " + wa, not(a)}, {`not field k="v"`, not(field("k", "v"))}, {"not not false", not(not(no()))}, {"not not not " + wb, not(not(not(b)))},
		{"(true)", yes()}, {"(" + wa + ")", a}, {"((" + wa + "))", a}, {"not (" + wa + ")", not(a)}, {"(not " + wa + ")", not(a)}, {"not (not (" + wa + "))", not(not(a))},
		{wa + " and " + wb, of(api.And, a, b)}, {wa + " or " + wb, of(api.Or, a, b)}, {wb + " and " + wa, of(api.And, b, a)}, {wa + " and " + wa, of(api.And, a, a)},
		{"(" + wa + " and " + wb + ")", of(api.And, a, b)}, {"((" + wa + " or " + wb + "))", of(api.Or, a, b)}, {"(" + wa + ") and (" + wb + ")", of(api.And, a, b)},
		{wa + " and " + wb + " and " + wc, of(api.And, a, b, c)}, {wa + " or " + wb + " or " + wc, of(api.Or, a, b, c)},
		{wa + " and " + wb + " or " + wc, of(api.Or, of(api.And, a, b), c)}, {wa + " or " + wb + " and " + wc, of(api.Or, a, of(api.And, b, c))},
		{wa + " and " + wb + " or " + wc + " and " + wd, of(api.Or, of(api.And, a, b), of(api.And, c, d))}, {wa + " or " + wb + " and " + wc + " or " + wd, of(api.Or, a, of(api.And, b, c), d)},
		{wa + " and (" + wb + " or " + wc + ")", of(api.And, a, of(api.Or, b, c))}, {"(" + wa + " or " + wb + ") and " + wc, of(api.And, of(api.Or, a, b), c)},
		// A row in brackets is one part of the row around it, of the same kind too.
		{"(" + wa + " and " + wb + ") and " + wc, of(api.And, of(api.And, a, b), c)}, {wa + " and (" + wb + " and " + wc + ")", of(api.And, a, of(api.And, b, c))},
		{"(" + wa + " or " + wb + ") or " + wc, of(api.Or, of(api.Or, a, b), c)}, {wa + " or (" + wb + " or " + wc + ") or " + wd, of(api.Or, a, of(api.Or, b, c), d)}, {"(" + wa + " and " + wb + ") or " + wc, of(api.Or, of(api.And, a, b), c)},
		// A not is of the one atom behind it.
		{"not " + wa + " and " + wb, of(api.And, not(a), b)}, {"not " + wa + " or " + wb, of(api.Or, not(a), b)}, {wa + " and not " + wb, of(api.And, a, not(b))}, {"not not " + wa + " and not " + wb + " or not " + wc, of(api.Or, of(api.And, not(not(a)), not(b)), not(c))},
		{"not (" + wa + " and " + wb + ")", not(of(api.And, a, b))}, {"not (" + wa + ") and " + wb, of(api.And, not(a), b)}, {"not (" + wa + " or " + wb + ") or " + wc, of(api.Or, not(of(api.Or, a, b)), c)}, {"(not " + wa + " and " + wb + ")", of(api.And, not(a), b)}, {"not (not " + wa + " or not not " + wb + ")", not(of(api.Or, not(a), not(not(b))))},
		{"true and false or not true", of(api.Or, of(api.And, yes(), no()), not(yes()))},
	} {
		answers(t, base+"find "+x.s+" limit 1", finds(x.f))
		want := finds(x.f)
		want.Desc = true
		answers(t, base+"find "+x.s+" desc limit 1", want)
	}
}

// Rows of any length, of each atom: one is itself, more are kids, in order.
func TestP7_1_Rows(t *testing.T) {
	atoms := []string{"true", "false", `word "a"`, `has "b"`, `field k="v"`, "not true", "(false)", "(true or false)"}
	kids := []api.Filter{yes(), no(), word("a"), has("b"), field("k", "v"), not(yes()), no(), of(api.Or, yes(), no())}
	for i := range atoms {
		for n := 1; n <= 40; n++ {
			var says []string
			var list []api.Filter
			for k := range n {
				says = append(says, atoms[(i+k)%len(atoms)])
				list = append(list, kids[(i+k)%len(kids)])
			}
			and, or := of(api.And, list...), of(api.Or, list...)
			if n == 1 {
				and, or = list[0], list[0]
			}
			answers(t, base+"find "+strings.Join(says, " and ")+" limit 1", finds(and))
			answers(t, base+"find "+strings.Join(says, " or ")+" limit 1", finds(or))
			answers(t, base+"find not ("+strings.Join(says, " and ")+") limit 1", finds(not(and)))
			answers(t, base+`find (word "z" and (`+strings.Join(says, " or ")+")) limit 1", finds(of(api.And, word("z"), or)))
		}
	}
	// As many as there can be.
	many := slices.Repeat([]string{"true"}, 110)
	answers(t, base+"find "+strings.Join(many, " and ")+" limit 1", finds(of(api.And, slices.Repeat([]api.Filter{yes()}, 110)...)))
}

// inner are n nots and brackets within one another, as bits say which, and what is of a filter within.
func inner(n, bits int, f api.Filter) (ahead, behind string, g api.Filter) {
	for i := range n {
		if bits>>i&1 == 1 {
			ahead, f = "not "+ahead, not(f)
		} else {
			ahead, behind = "("+ahead, behind+")"
		}
	}
	return ahead, behind, f
}

// Nots, brackets, and both mixed in all ways, up to eight within one another; a ninth is told where it stands, whatever is behind it.
func TestP7_1_Depth(t *testing.T) {
	for n := range 9 {
		for bits := range 1 << n {
			for _, x := range []struct {
				s string
				f api.Filter
			}{{"true", yes()}, {`word "a" and has "b"`, of(api.And, word("a"), has("b"))}} {
				ahead, behind, f := inner(n, bits, x.f)
				if x.f.Op == api.And && bits&1 == 1 {
					continue // then the not is of word "a" alone
				}
				answers(t, base+"find "+ahead+x.s+behind+" limit 1", finds(f))
			}
		}
	}
	for bits := range 1 << 9 {
		ahead, behind, _ := inner(8, bits, yes())
		for _, ninth := range []string{"not ", "("} {
			s := base + "find " + ahead + ninth
			at := len(base+"find "+ahead) + 1
			for _, rest := range []string{"true" + behind + " limit 1", "true)" + behind + " limit 1", "", "x", "and", "not true", "((", ")", "limit 1"} {
				fails(t, s+rest, api.ErrLimit, at)
			}
		}
	}
	// Where it can't stand it is no matter of how deep that is.
	ahead, behind, _ := inner(8, 0, yes())
	for _, s := range []string{"true (", "true not", "word (", "word not", "field (", "field not", "field k (", "field k= not"} {
		last := strings.LastIndexAny(s, " ") + 1
		fails(t, base+"find "+ahead+s+behind+" limit 1", api.ErrSyntax, len(base+"find "+ahead)+last+1)
	}
}

// Of nots and brackets side by side none stands within the other.
func TestP7_1_DepthSideBySide(t *testing.T) {
	nots := func(n int) string { return strings.Repeat("not ", n) }
	in := func(n int, s string) string { return strings.Repeat("(", n) + s + strings.Repeat(")", n) }
	for _, s := range []string{
		strings.Repeat("not true and ", 30) + "not true",
		strings.Repeat("(true) or ", 30) + "(true)",
		nots(8) + "true and " + nots(8) + "true or " + nots(8) + "true",
		in(8, "true") + " and " + in(8, "true") + " or " + in(8, "true"),
		nots(8) + "true or " + in(8, "true") + " and " + nots(4) + in(4, "true") + " or " + in(4, nots(4)+"true"),
		in(1, nots(7)+"true and "+nots(7)+"true or "+in(7, "true")),
		"not " + in(1, nots(6)+"true and "+in(6, "true")+" and "+nots(6)+"true") + " and " + nots(8) + "true",
		in(7, "not true and not true or (true) or (true)"),
	} {
		q, fault := parse.Parse(base + "find " + s + " limit 1")
		if fault != (api.Fault{}) || !tree.Good(q.Filter) || q.Limit != 1 {
			t.Errorf("%s: %v", s, fault)
		}
	}
	for _, s := range []string{
		strings.Repeat("not true and ", 30) + nots(8),
		in(8, "true") + " and " + nots(8),
		nots(8) + "true or " + strings.Repeat("(", 8),
		in(8, "true") + " or " + strings.Repeat("(", 8),
		"(" + nots(7) + "true and " + nots(7),
		"(" + in(7, "true") + " and " + nots(7),
		"not (" + nots(6) + "true and " + in(6, "true") + " and " + strings.Repeat("(", 6),
	} {
		for _, ninth := range []string{"not true", "(true)"} {
			fails(t, base+"find "+s+ninth+" limit 1", api.ErrLimit, len(base+"find "+s)+1)
		}
	}
}

func TestP7_1_Times(t *testing.T) {
	const most = 1 << 40
	list := []int{-most, -most + 1, -1, 0, 1, 9, 10, most - 1, most}
	for _, from := range list {
		for _, to := range list {
			ahead := "from " + strconv.Itoa(from) + " "
			s := ahead + "to " + strconv.Itoa(to) + " limit 1"
			if from <= to {
				answers(t, s, api.Query{From: from, To: to, Filter: yes(), Limit: 1})
			} else {
				fails(t, s, api.ErrRange, len(ahead)+1)
			}
		}
	}
	for _, n := range []int{most + 1, -most - 1, most + 2, 1<<62 + 5, -1 << 62, 1<<63 - 1, -1 << 63, 1<<53 + 1} {
		s := strconv.Itoa(n)
		for _, other := range list {
			ahead := "from " + strconv.Itoa(other) + " to "
			fails(t, "from "+s+" to "+strconv.Itoa(other)+" limit 1", api.ErrLimit, 6)
			fails(t, ahead+s+" limit 1", api.ErrLimit, len(ahead)+1)
		}
		fails(t, "from "+s+" to "+s+" limit 1", api.ErrLimit, 6)
		fails(t, "from "+s, api.ErrLimit, 6)
		fails(t, "from 0 to "+s, api.ErrLimit, 11)
	}
	// Ahead of what stands behind, and of nothing ahead.
	for _, behind := range []string{"", "limit 1", "limit", "limit 0", "to", "x", ")", strings.Repeat(`where a="x" `, 5)} {
		fails(t, "from 9 to 8 "+behind, api.ErrRange, 8)
		fails(t, "  from  -8  to  -9  "+behind, api.ErrRange, 13)
	}
	fails(t, "from 9 to", api.ErrSyntax, 10)
	fails(t, `from 9 to "8"`, api.ErrSyntax, 11)
	fails(t, "from 9 to to 8", api.ErrSyntax, 11)
}

func TestP7_1_Limits(t *testing.T) {
	for n := -60; n <= 120; n++ {
		s := base + "limit " + strconv.Itoa(n)
		if 1 <= n && n <= 50 {
			answers(t, s, api.Query{To: 9, Filter: yes(), Limit: n})
			continue
		}
		for _, behind := range []string{"", " ", ` page "p"`, " page", " 5", " x"} {
			fails(t, s+behind, api.ErrLimit, len(base)+7)
		}
	}
	for _, n := range []string{"256", "257", "306", "65537", "4294967297", "4294967346", "-4294967295", "9223372036854775807", "-9223372036854775808"} {
		fails(t, base+"limit "+n, api.ErrLimit, len(base)+7)
	}
}

func TestP7_1_Pages(t *testing.T) {
	for _, page := range []string{"", "p", " ", "0123456789abcdef", `"`, `\`, "é世", "page", "\t\x00", "\ufffd", strings.Repeat("p", 900), strings.Repeat(`"`, 400)} {
		want := finds(yes())
		want.Page = page
		answers(t, base+"limit 1 page "+lex.Quote(page), want)
		answers(t, base+"limit 1 page"+lex.Quote(page)+"  ", want)
		fails(t, base+"limit 1 page "+lex.Quote(page)+" x", api.ErrSyntax, len(base+"limit 1 page "+lex.Quote(page)+" ")+1)
	}
	fails(t, base+"limit 1 page", api.ErrSyntax, len(base)+13)
	fails(t, base+"limit 1 page p", api.ErrSyntax, len(base)+14)
	fails(t, base+"limit 1 page 5", api.ErrSyntax, len(base)+14)
	fails(t, base+`page "p" limit 1`, api.ErrSyntax, len(base)+1)
	fails(t, base+`limit 1 page "p" page "p"`, api.ErrSyntax, len(base)+18)
	fails(t, base+`limit 1 "p"`, api.ErrSyntax, len(base)+9)
}

// What is answered is the caller's: it changes no later answer, and its lists share nothing.
func TestP7_1_AnewEachTime(t *testing.T) {
	const s = `from 0 to 9 where a="x" where b="y" where c="z" find (word "a" and word "b" and word "c") or (has "d" or has "e" or has "f") or not (true and false) limit 5`
	want := api.Query{To: 9, Limit: 5, Match: []api.Matcher{{Name: "a", Value: "x"}, {Name: "b", Value: "y"}, {Name: "c", Value: "z"}}, Filter: of(api.Or,
		of(api.And, word("a"), word("b"), word("c")), of(api.Or, has("d"), has("e"), has("f")), not(of(api.And, yes(), no())))}
	answers(t, s, want)
	one, _ := parse.Parse(s)
	other, _ := parse.Parse(s)
	_ = append(one.Match, api.Matcher{Name: "z"})
	_ = append(one.Filter.Kids, word("z"))
	for i := range one.Filter.Kids {
		_ = append(one.Filter.Kids[i].Kids, word("z"), word("z"))
		if !tree.Same(one, want) {
			t.Fatalf("behind kid %d: %v", i, one)
		}
	}
	spoil(&one.Filter)
	clear(one.Match)
	if !tree.Same(other, want) {
		t.Errorf("%v, not %v", other, want)
	}
	answers(t, s, want)
}

// spoil writes into a filter, and into all within it.
func spoil(f *api.Filter) {
	for i := range f.Kids {
		spoil(&f.Kids[i])
	}
	f.Op, f.Name, f.Text = 99, "spoilt", "spoilt"
}
