package show_test

import (
	"slices"
	"strconv"
	"strings"
	"testing"

	"magpie/api"
	"magpie/show"
	"magpie/tree"
)

// base is the least that a query's text has ahead of its limit.
const base = "from 0 to 9 "

func of(op int, kids ...api.Filter) api.Filter { return api.Filter{Op: op, Kids: kids} }

func yes() api.Filter { return of(api.True) }

func no() api.Filter { return of(api.False) }

func word(s string) api.Filter { return api.Filter{Op: api.Word, Text: s} }

func has(s string) api.Filter { return api.Filter{Op: api.Has, Text: s} }

func field(name, text string) api.Filter {
	return api.Filter{Op: api.Field, Name: name, Text: text}
}

func not(f api.Filter) api.Filter { return of(api.Not, f) }

func and(kids ...api.Filter) api.Filter { return of(api.And, kids...) }

func or(kids ...api.Filter) api.Filter { return of(api.Or, kids...) }

// finds is the query of base, a filter, and limit 1.
func finds(f api.Filter) api.Query { return api.Query{To: 9, Filter: f, Limit: 1} }

// short is a text as a message tells it.
func short(s string) string {
	if len(s) > 400 {
		return strconv.Quote(s[:300]) + ".." + strconv.Quote(s[len(s)-80:])
	}
	return strconv.Quote(s)
}

// shows asks whether a query's text without its page is this one, and with it, whether its page's words stand behind that.
func shows(t *testing.T, q api.Query, plain, page string) {
	t.Helper()
	if got := show.Plain(q); got != plain {
		t.Errorf("Plain: %s, not %s", short(got), short(plain))
	}
	if got := show.Query(q); got != plain+page {
		t.Errorf("Query: %s, not %s", short(got), short(plain+page))
	}
}

// showsFilter asks whether a filter's text is this one, alone and in a query.
func showsFilter(t *testing.T, f api.Filter, want string) {
	t.Helper()
	if got := show.Filter(f); got != want {
		t.Errorf("Filter: %s, not %s", short(got), short(want))
	}
	in := base + "find " + want + " "
	if f.Op == api.True {
		in = base
	}
	q := finds(f)
	shows(t, q, in+"limit 1", "")
	q.Page = "p"
	shows(t, q, in+"limit 1", ` page "p"`)
	q.Desc = true
	shows(t, q, in+"desc limit 1", ` page "p"`)
}

// part is what is set of a query, and the words that tell it.
type part struct {
	says string
	set  func(q *api.Query)
}

// parts are the ways in which each part of a query may be there, or be left out, but for its page.
func parts() [][]part {
	match := func(says string, list ...api.Matcher) part {
		return part{says, func(q *api.Query) { q.Match = list }}
	}
	find := func(says string, f api.Filter) part {
		return part{says, func(q *api.Query) { q.Filter = f }}
	}
	a, b := api.Matcher{Name: "a", Value: "x"}, api.Matcher{Name: "b", Not: true}
	return [][]part{
		{{"from 0 to 9", func(q *api.Query) { q.To = 9 }}, {"from -7 to -7", func(q *api.Query) { q.From, q.To = -7, -7 }}},
		{match(""), match(`where a="x"`, a), match(`where b!=""`, b), match(`where a="x" where b!=""`, a, b), match(`where b!="" where a="x" where a="x"`, b, a, a), match(`where b!="" where a="x" where b!="" where a="x"`, b, a, b, a)},
		{find("", yes()), find("find false", no()), find("find not true", not(yes())), find(`find (word "a" and has "") or field k="v"`, or(and(word("a"), has("")), field("k", "v")))},
		{{"", func(q *api.Query) {}}, {"desc", func(q *api.Query) { q.Desc = true }}},
		{{"limit 1", func(q *api.Query) { q.Limit = 1 }}, {"limit 50", func(q *api.Query) { q.Limit = 50 }}},
	}
}

// ways are the queries of all ways of all parts, together with each other's, with what they are to be told by.
func ways(says string, q api.Query, rest [][]part, tell func(q api.Query, says string)) {
	if len(rest) == 0 {
		tell(q, says)
		return
	}
	for _, p := range rest[0] {
		g := q
		p.set(&g)
		with := says
		if says != "" && p.says != "" {
			with += " "
		}
		ways(with+p.says, g, rest[1:], tell)
	}
}

func TestP8_1_AllParts(t *testing.T) {
	n := 0
	ways("", api.Query{}, parts(), func(q api.Query, says string) {
		n++
		for page, words := range map[string]string{"": "", "p": ` page "p"`, " ": ` page " "`, `from "0"`: ` page "from \"0\""`} {
			q.Page = page
			shows(t, q, says, words)
		}
	})
	if n != 2*6*4*2*2 {
		t.Errorf("%d ways", n)
	}
}

func TestP8_1_Examples(t *testing.T) {
	f := and(or(word("a"), word("b")), not(has("x")))
	shows(t, api.Query{To: 9, Filter: f, Limit: 5}, `from 0 to 9 find (word "a" or word "b") and not has "x" limit 5`, "")
	q := api.Query{From: -5, To: 9, Match: []api.Matcher{{Name: "app", Value: "x"}, {Name: "env", Not: true, Value: `a"b`}}, Filter: f, Desc: true, Limit: 50, Page: `p \`}
	shows(t, q, `from -5 to 9 where app="x" where env!="a\"b" find (word "a" or word "b") and not has "x" desc limit 50`, ` page "p \\"`)
}

func TestP8_1_Times(t *testing.T) {
	const most = 1 << 40
	says := map[int]string{-most: "-1099511627776", -most + 1: "-1099511627775", -10: "-10", -1: "-1", 0: "0", 1: "1", 9: "9", 10: "10", 1 << 32: "4294967296", most: "1099511627776"}
	for from, first := range says {
		for to, last := range says {
			q := api.Query{From: from, To: to, Filter: yes(), Limit: 1}
			shows(t, q, "from "+first+" to "+last+" limit 1", "")
		}
	}
}

func TestP8_1_Limits(t *testing.T) {
	for n := 1; n <= 50; n++ {
		shows(t, api.Query{Filter: yes(), Limit: n}, "from 0 to 0 limit "+strconv.Itoa(n), "")
		shows(t, api.Query{Filter: yes(), Limit: n, Desc: true, Page: "p"}, "from 0 to 0 desc limit "+strconv.Itoa(n), ` page "p"`)
	}
}

// No matcher, one, and up to four, with = and != in all ways, in the order in which they stand, the same ones as often as they do.
func TestP8_1_Matchers(t *testing.T) {
	list := []api.Matcher{{Name: "b", Value: "x"}, {Name: "b", Not: true, Value: "x"}, {Name: "a"}, {Name: "_Z9", Not: true}}
	says := []string{`where b="x" `, `where b!="x" `, `where a="" `, `where _Z9!="" `}
	var add func(n int, match []api.Matcher, words string)
	add = func(n int, match []api.Matcher, words string) {
		shows(t, api.Query{To: 9, Match: match, Filter: yes(), Limit: 1}, base+words+"limit 1", "")
		shows(t, api.Query{To: 9, Match: match, Filter: no(), Limit: 1, Page: "p"}, base+words+"find false limit 1", ` page "p"`)
		if n == 4 {
			return
		}
		for i, m := range list {
			add(n+1, append(slices.Clone(match), m), words+says[i])
		}
	}
	add(0, nil, "")
	shows(t, api.Query{To: 9, Match: []api.Matcher{}, Filter: yes(), Limit: 1}, base+"limit 1", "")
}

// said are texts, and their letters.
var said = []struct{ s, letters string }{
	{"", `""`}, {"a", `"a"`}, {" ", `" "`}, {"  a  b  ", `"  a  b  "`}, {`"`, `"\""`}, {`\`, `"\\"`}, {`""`, `"\"\""`}, {`\\`, `"\\\\"`}, {`\"`, `"\\\""`}, {`"\`, `"\"\\"`},
	{`a"b\c`, `"a\"b\\c"`}, {`\n`, `"\\n"`}, {`"a"`, `"\"a\""`}, {"é", `"é"`}, {"世\U0001f426\u0085", "\"世\U0001f426\u0085\""}, {"\ufffd", "\"\ufffd\""}, {"\t\r\x00\x7f", "\"\t\r\x00\x7f\""},
	{"true", `"true"`}, {"and", `"and"`}, {"(", `"("`}, {"=", `"="`}, {"5", `"5"`}, {"' limit", `"' limit"`}, {`" limit 1`, `"\" limit 1"`},
	{strings.Repeat("x", 200), `"` + strings.Repeat("x", 200) + `"`}, {strings.Repeat(`"`, 2000), `"` + strings.Repeat(`\"`, 2000) + `"`}, {strings.Repeat("é", 2000), `"` + strings.Repeat("é", 2000) + `"`},
}

func TestP8_1_Texts(t *testing.T) {
	for _, x := range said {
		showsFilter(t, word(x.s), "word "+x.letters)
		showsFilter(t, has(x.s), "has "+x.letters)
		showsFilter(t, field("k", x.s), "field k="+x.letters)
		showsFilter(t, and(word(x.s), not(has(x.s)), or(field("k", x.s), word(x.s))), "word "+x.letters+" and not has "+x.letters+" and (field k="+x.letters+" or word "+x.letters+")")
		q := finds(yes())
		q.Match = []api.Matcher{{Name: "k", Value: x.s}, {Name: "k", Not: true, Value: x.s}}
		q.Page = x.s
		page := " page " + x.letters
		if x.s == "" {
			page = ""
		}
		shows(t, q, base+"where k="+x.letters+" where k!="+x.letters+" limit 1", page)
	}
}

func TestP8_1_Names(t *testing.T) {
	for _, name := range []string{"k", "_", "A9", "From", "limits", "xtrue", strings.Repeat("n", 20)} {
		showsFilter(t, field(name, "v"), "field "+name+`="v"`)
		q := finds(field(name, ""))
		q.Match = []api.Matcher{{Name: name, Value: "v"}, {Name: name, Not: true}}
		shows(t, q, base+"where "+name+`="v" where `+name+`!="" find field `+name+`="" limit 1`, "")
	}
}

// True alone is left out behind find, but nowhere else.
func TestP8_1_True(t *testing.T) {
	shows(t, finds(yes()), "from 0 to 9 limit 1", "")
	if got := show.Filter(yes()); got != "true" {
		t.Error(got)
	}
	if got := show.Filter(no()); got != "false" {
		t.Error(got)
	}
	for _, x := range []struct {
		f    api.Filter
		want string
	}{
		{no(), "false"}, {not(yes()), "not true"}, {not(not(yes())), "not not true"},
		{and(yes(), yes()), "true and true"}, {and(yes(), word("a")), `true and word "a"`}, {and(word("a"), yes()), `word "a" and true`},
		{or(yes(), yes()), "true or true"}, {or(yes(), no()), "true or false"}, {or(no(), yes(), yes()), "false or true or true"},
		{not(and(yes(), yes())), "not (true and true)"}, {or(and(yes(), yes()), yes()), "(true and true) or true"},
		{word("true"), `word "true"`}, {has("true"), `has "true"`}, {field("True", "true"), `field True="true"`},
	} {
		shows(t, finds(x.f), base+"find "+x.want+" limit 1", "")
	}
}

func TestP8_1_Filters(t *testing.T) {
	a, b, c, d := word("a"), word("b"), word("c"), word("d")
	wa, wb, wc, wd := `word "a"`, `word "b"`, `word "c"`, `word "d"`
	for _, x := range []struct {
		f    api.Filter
		want string
	}{
		{and(a, b), wa + " and " + wb}, {or(a, b), wa + " or " + wb}, {and(b, a), wb + " and " + wa}, {and(a, a), wa + " and " + wa},
		{and(a, b, c), wa + " and " + wb + " and " + wc}, {or(a, b, c, d), wa + " or " + wb + " or " + wc + " or " + wd},
		// A kid that is a row stands in brackets, whatever it stands within, and wherever.
		{or(and(a, b), c), "(" + wa + " and " + wb + ") or " + wc}, {or(a, and(b, c)), wa + " or (" + wb + " and " + wc + ")"}, {or(a, and(b, c), d), wa + " or (" + wb + " and " + wc + ") or " + wd},
		{and(or(a, b), c), "(" + wa + " or " + wb + ") and " + wc}, {and(a, or(b, c)), wa + " and (" + wb + " or " + wc + ")"}, {and(or(a, b), or(c, d)), "(" + wa + " or " + wb + ") and (" + wc + " or " + wd + ")"},
		{and(and(a, b), c), "(" + wa + " and " + wb + ") and " + wc}, {and(a, and(b, c)), wa + " and (" + wb + " and " + wc + ")"}, {and(and(a, b), and(c, d)), "(" + wa + " and " + wb + ") and (" + wc + " and " + wd + ")"},
		{or(or(a, b), c), "(" + wa + " or " + wb + ") or " + wc}, {or(a, or(b, c), d), wa + " or (" + wb + " or " + wc + ") or " + wd}, {or(or(a, or(b, c)), d), "(" + wa + " or (" + wb + " or " + wc + ")) or " + wd},
		{and(or(and(a, b), c), d), "((" + wa + " and " + wb + ") or " + wc + ") and " + wd}, {or(and(or(a, b), or(c, d)), and(a, b)), "((" + wa + " or " + wb + ") and (" + wc + " or " + wd + ")) or (" + wa + " and " + wb + ")"},
		{not(a), "not " + wa}, {not(has("x")), `not has "x"`}, {not(field("k", "v")), `not field k="v"`}, {not(yes()), "not true"}, {not(no()), "not false"}, {not(not(a)), "not not " + wa}, {not(not(not(no()))), "not not not false"},
		{not(and(a, b)), "not (" + wa + " and " + wb + ")"}, {not(or(a, b)), "not (" + wa + " or " + wb + ")"}, {not(not(and(a, b))), "not not (" + wa + " and " + wb + ")"}, {not(and(not(or(a, not(b))), c)), "not (not (" + wa + " or not " + wb + ") and " + wc + ")"},
		// A not is no row: it stands in none.
		{and(not(a), b), "not " + wa + " and " + wb}, {and(a, not(b)), wa + " and not " + wb}, {or(not(a), not(not(b))), "not " + wa + " or not not " + wb}, {and(not(or(a, b)), not(and(c, d))), "not (" + wa + " or " + wb + ") and not (" + wc + " and " + wd + ")"},
		{or(yes(), no(), has("h"), field("k", "v"), not(a), and(b, c), or(c, d)), `true or false or has "h" or field k="v" or not ` + wa + " or (" + wb + " and " + wc + ") or (" + wc + " or " + wd + ")"},
	} {
		showsFilter(t, x.f, x.want)
	}
}

// Rows of any length, of each kind of kid, with what they stand within.
func TestP8_1_Rows(t *testing.T) {
	kids := []api.Filter{yes(), no(), word("a"), has(""), field("k", `"`), not(word("b")), not(not(no())), and(yes(), no()), or(has("x"), has("y")), not(and(no(), no()))}
	says := []string{"true", "false", `word "a"`, `has ""`, `field k="\""`, `not word "b"`, "not not false", "(true and false)", `(has "x" or has "y")`, "not (false and false)"}
	for first := range kids {
		for n := 2; n <= 60; n++ {
			var list []api.Filter
			var words []string
			for i := range n {
				list = append(list, kids[(first+i)%len(kids)])
				words = append(words, says[(first+i)%len(says)])
			}
			all, one := strings.Join(words, " and "), strings.Join(words, " or ")
			showsFilter(t, and(list...), all)
			showsFilter(t, or(list...), one)
			showsFilter(t, not(and(list...)), "not ("+all+")")
			showsFilter(t, or(and(list...), has("z"), or(list...)), "("+all+`) or has "z" or (`+one+")")
			showsFilter(t, and(or(list...), and(list...)), "("+one+") and ("+all+")")
		}
	}
}

// What has all parts as Parse answers them is told however long, and however deep it is.
func TestP8_1_LongAndDeep(t *testing.T) {
	f, want := word("a"), `word "a"`
	g, other := or(yes(), no()), "true or false"
	for n := range 40 {
		showsFilter(t, f, want)
		showsFilter(t, g, other)
		f, want = not(f), "not "+want
		if n%2 == 0 {
			g, other = and(g, no()), "("+other+") and false"
		} else {
			g, other = or(no(), g, no()), "false or ("+other+") or false"
		}
	}
	const n = 1 << 16
	deep := word("a")
	for range n {
		deep = not(deep)
	}
	showsFilter(t, deep, strings.Repeat("not ", n)+`word "a"`)
	showsFilter(t, and(slices.Repeat([]api.Filter{or(yes(), no())}, 10000)...), strings.Repeat("(true or false) and ", 9999)+"(true or false)")
}

// spare are lists with room behind, in which something stands that isn't theirs.
func spare() (api.Query, []api.Matcher, []api.Filter) {
	match := []api.Matcher{{Name: "a", Value: "x"}, {Name: "b", Not: true, Value: "y"}, {Name: "far", Value: "off"}}
	kids := []api.Filter{or(word("a"), has("b")), not(field("k", "v")), word("far off")}
	q := api.Query{From: 1, To: 2, Match: match[:2], Filter: api.Filter{Op: api.And, Kids: kids[:2]}, Desc: true, Limit: 3, Page: "p"}
	return q, match, kids
}

// What is handed in stays as it is, and what is written into it behind a call isn't seen in what that answered.
func TestP8_1_HandedInIsKept(t *testing.T) {
	const want = `from 1 to 2 where a="x" where b!="y" find (word "a" or has "b") and not field k="v" desc limit 3`
	q, match, kids := spare()
	other, otherMatch, otherKids := spare()
	query, plain, filter := show.Query(q), show.Plain(q), show.Filter(q.Filter)
	if !tree.Same(q, other) || !slices.Equal(match, otherMatch) || !slices.EqualFunc(kids, otherKids, tree.Filter) {
		t.Errorf("%v", q)
	}
	clear(match)
	clear(kids[0].Kids)
	clear(kids)
	if query != want+` page "p"` || plain != want || filter != `(word "a" or has "b") and not field k="v"` {
		t.Errorf("%s, %s, %s", query, plain, filter)
	}
	shows(t, other, want, ` page "p"`)
	shows(t, other, want, ` page "p"`)
}
