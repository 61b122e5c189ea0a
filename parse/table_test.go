package parse_test

import (
	"math/rand"
	"slices"
	"strconv"
	"strings"
	"testing"

	"magpie/api"
	"magpie/lex"
	"magpie/parse"
	"magpie/tree"
)

// The grammar as a table: where a text has got to, and where each token leads from there. A token's class is what it says, of words and signs, or what it is.
var leads = map[string]map[string]string{
	"start":  {"from": "from"},
	"from":   {"number": "times"},
	"times":  {"to": "to"},
	"to":     {"number": "head"},
	"head":   {"where": "where", "find": "atom", "desc": "desc", "limit": "limit"},
	"where":  {"name": "sign"},
	"sign":   {"=": "value", "!=": "value"},
	"value":  {"text": "head"},
	"desc":   {"limit": "limit"},
	"limit":  {"number": "behind"},
	"behind": {"page": "page", "end": "done"},
	"page":   {"text": "last"},
	"last":   {"end": "done"},
	"atom":   {"true": "is", "false": "is", "word": "text", "has": "text", "field": "field", "not": "atom", "(": "atom"},
	"text":   {"text": "is"},
	"field":  {"name": "equals"},
	"equals": {"=": "text"},
	"is":     {"and": "atom", "or": "atom", "desc": "desc", "limit": "limit"},
	"within": {"and": "atom", "or": "atom", ")": "is"},
}

// class is the class of a piece, which is one token.
func class(piece string) string {
	switch {
	case lex.IsWord(piece) || slices.Contains([]string{"=", "!=", "(", ")"}, piece):
		return piece
	case piece == "":
		return "end"
	case piece[0] == '"':
		return "text"
	case piece[0] == '-' || '0' <= piece[0] && piece[0] <= '9':
		return "number"
	}
	return "name"
}

// table goes through a text's tokens by leads; open are the nots and brackets that aren't closed.
type table struct {
	at     string
	open   []string
	wheres int
	from   int
	to     int
}

// step goes on by one token that stands at that place, and answers what is wrong, if something is.
func (m *table) step(piece string, place int) api.Fault {
	was, c := m.at, class(piece)
	if was == "is" && slices.Contains(m.open, "(") {
		was = "within"
	}
	next, ok := leads[was][c]
	if !ok {
		return api.Fault{Err: api.ErrSyntax, At: place}
	}
	m.at = next
	n, _ := strconv.Atoi(piece)
	switch {
	case was == "from":
		m.from = n
	case was == "times":
		m.to = place
	case c == "where":
		m.wheres++
	case c == ")":
		m.open = m.open[:len(m.open)-1]
	case was == "atom" && (c == "not" || c == "("):
		m.open = append(m.open, c)
	}
	// Behind an atom the nots are closed of which it is the kid.
	for m.at == "is" && len(m.open) > 0 && m.open[len(m.open)-1] == "not" {
		m.open = m.open[:len(m.open)-1]
	}
	return m.bounds(was, n, place)
}

// bounds is what is wrong with how great a number is, or with how many there are.
func (m *table) bounds(was string, n, place int) api.Fault {
	const most = 1 << 40
	time := was == "from" || was == "to"
	switch {
	case time && (n < -most || n > most), was == "limit" && (n < 1 || n > 50), m.wheres > 4, len(m.open) > 8:
		return api.Fault{Err: api.ErrLimit, At: place}
	case was == "to" && n < m.from:
		return api.Fault{Err: api.ErrRange, At: m.to}
	}
	return api.Fault{}
}

// byTable is the fault of pieces with one blank between.
func byTable(pieces []string) (string, api.Fault) {
	s, places := joined(pieces)
	m := table{at: "start"}
	for i, p := range append(slices.Clone(pieces), "") {
		if fault := m.step(p, places[i]); fault != (api.Fault{}) {
			return s, fault
		}
	}
	return s, api.Fault{}
}

// cut are the parts of pieces between those of that class that stand in no bracket.
func cut(pieces []string, at string) [][]string {
	var out [][]string
	deep, begin := 0, 0
	for i, p := range pieces {
		switch {
		case p == "(":
			deep++
		case p == ")":
			deep--
		case p == at && deep == 0:
			out = append(out, pieces[begin:i])
			begin = i + 1
		}
	}
	return append(out, pieces[begin:])
}

// said is what a Text's letters say, which have no \.
func said(piece string) string { return piece[1 : len(piece)-1] }

// byCuts is the filter of pieces that are one: cut at each or, else at each and, else what the first piece makes of the others.
func byCuts(pieces []string) api.Filter {
	for _, row := range []struct {
		at string
		op int
	}{{"or", api.Or}, {"and", api.And}} {
		parts := cut(pieces, row.at)
		if len(parts) == 1 {
			continue
		}
		f := of(row.op)
		for _, p := range parts {
			f.Kids = append(f.Kids, byCuts(p))
		}
		return f
	}
	switch pieces[0] {
	case "not":
		return not(byCuts(pieces[1:]))
	case "(":
		return byCuts(pieces[1 : len(pieces)-1])
	case "word":
		return word(said(pieces[1]))
	case "has":
		return has(said(pieces[1]))
	case "field":
		return field(pieces[1], said(pieces[3]))
	case "true":
		return yes()
	}
	return no()
}

// queryOf is the query of pieces that are one.
func queryOf(pieces []string) api.Query {
	q := api.Query{Filter: yes()}
	for i, p := range pieces {
		switch p {
		case "from":
			q.From, _ = strconv.Atoi(pieces[i+1])
		case "to":
			q.To, _ = strconv.Atoi(pieces[i+1])
		case "where":
			q.Match = append(q.Match, api.Matcher{Name: pieces[i+1], Not: pieces[i+2] == "!=", Value: said(pieces[i+3])})
		case "desc":
			q.Desc = true
		case "limit":
			q.Limit, _ = strconv.Atoi(pieces[i+1])
		case "page":
			q.Page = said(pieces[i+1])
		case "find":
			n := slices.IndexFunc(pieces, func(p string) bool { return p == "desc" || p == "limit" })
			q.Filter = byCuts(pieces[i+1 : n])
		}
	}
	return q
}

// held holds what Parse answers of pieces against the table, and against the cuts.
func held(t *testing.T, pieces []string) api.Fault {
	t.Helper()
	s, fault := byTable(pieces)
	if fault != (api.Fault{}) {
		fails(t, s, fault.Err, fault.At)
	} else {
		answers(t, s, queryOf(pieces))
	}
	return fault
}

// tokens are tokens of all kinds, and numbers at all bounds.
var tokens = []string{
	"from", "to", "where", "find", "desc", "limit", "page", "and", "or", "not", "word", "has", "field", "true", "false", "=", "!=", "(", ")",
	"app", `"x"`, `""`, `"and"`, "0", "1", "50", "51", "-1", "1099511627776", "-1099511627776", "1099511627777", "-1099511627777",
}

// samples are queries, and texts that are nearly some, token by token.
func samples() [][]string {
	out := [][]string{whole}
	for _, s := range []string{
		`from 0 to 9 limit 1`,
		`from 9 to 8 limit 1`,
		`from 1 to 50 desc limit 50 page "p"`,
		`from 0 to 9 where a = "x" where b = "x" where c != "x" where d = "x" limit 1`,
		`from 0 to 9 where a = "x" where b = "x" where c = "x" where d = "x" where e = "x" find true limit 1`,
		`from 0 to 9 find not not not not not not not not true and not true limit 1`,
		`from 0 to 9 find ( ( ( ( ( ( ( ( true ) ) ) ) ) ) ) ) or ( true ) limit 1`,
		`from 0 to 9 find not ( not ( not ( not ( false ) or not true ) and not not true ) ) or true limit 1`,
		`from 0 to 9 find ( ( has "a" or has "b" ) and ( has "c" or not has "d" ) ) or field k = "v" and word "w" desc limit 5`,
		`from 0 to 9 find true and ( false or not ( true and word "a" ) and false ) or not has "x" limit 50 page ""`,
	} {
		out = append(out, strings.Split(s, " "))
	}
	return out
}

// Each token of some queries left out, or others in its place, ahead of it, and the one behind it ahead of it.
func TestP7_1_OneTokenOtherwise(t *testing.T) {
	for _, pieces := range samples() {
		held(t, pieces)
		for at := range len(pieces) + 1 {
			held(t, pieces[:at])
			for _, x := range tokens {
				held(t, with(pieces, at, 0, x))
				if at < len(pieces) {
					held(t, with(pieces, at, 1, x))
				}
			}
			if at < len(pieces) {
				held(t, with(pieces, at, 1))
			}
			if at+1 < len(pieces) {
				held(t, with(pieces, at, 2, pieces[at+1], pieces[at]))
			}
		}
	}
}

// Several tokens otherwise: the first that is wrong is told.
func TestP7_1_SomeTokensOtherwise(t *testing.T) {
	r := rand.New(rand.NewSource(7))
	list := samples()
	for range 60000 {
		pieces := list[r.Intn(len(list))]
		for range 1 + r.Intn(4) {
			at := r.Intn(len(pieces) + 1)
			some := min(r.Intn(2), len(pieces)-at)
			pieces = with(pieces, at, some, tokens[r.Intn(len(tokens))])
		}
		held(t, pieces)
	}
}

// follow goes on, by all of some tokens, from all beginnings that aren't wrong, up to so many tokens more.
func follow(t *testing.T, pieces []string, most int, list, end []string) {
	t.Helper()
	held(t, append(slices.Clone(pieces), end...))
	fault := held(t, pieces)
	_, places := joined(pieces)
	if most == 0 || fault != (api.Fault{}) && fault.At < places[len(pieces)] {
		return
	}
	for _, x := range list {
		follow(t, append(slices.Clone(pieces), x), most-1, list, end)
	}
}

// All beginnings of queries, and all tokens behind each.
func TestP7_1_AllBeginnings(t *testing.T) {
	follow(t, nil, 8, tokens, nil)
	ahead := strings.Fields(base)
	follow(t, ahead, 4, tokens, nil)
	follow(t, ahead, 4, tokens, []string{"limit", "1"})
}

// All filters of few tokens.
func TestP7_1_AllFilters(t *testing.T) {
	ahead := append(strings.Fields(base), "find")
	end := []string{"limit", "1"}
	follow(t, ahead, 9, []string{"true", "not", "(", ")", "and", "or"}, end)
	follow(t, ahead, 6, []string{"true", "false", "word", "has", "field", "k", "=", `"v"`, "not", "(", ")", "and", "or"}, end)
}

// filterOf is a filter of any kind that can be said, and its pieces; depth is how many nots and brackets may still stand within one another.
func filterOf(r *rand.Rand, depth, wide int) ([]string, api.Filter) {
	rows := [][]string{{"true"}, {"false"}, {"word", `"a"`}, {"has", `"b c"`}, {"field", "k", "=", `""`}}
	filters := []api.Filter{yes(), no(), word("a"), has("b c"), field("k", "")}
	var or []api.Filter
	var pieces []string
	for i := range 1 + r.Intn(wide) {
		if i > 0 {
			pieces = append(pieces, "or")
		}
		var and []api.Filter
		for k := range 1 + r.Intn(wide) {
			if k > 0 {
				pieces = append(pieces, "and")
			}
			nots := 0
			for depth > nots && r.Intn(3) == 0 {
				nots++
				pieces = append(pieces, "not")
			}
			n := r.Intn(len(rows))
			p, f := rows[n], filters[n]
			if depth > nots && r.Intn(2) == 0 {
				p, f = filterOf(r, depth-nots-1, 1+r.Intn(wide))
				p = append(append([]string{"("}, p...), ")")
			}
			pieces = append(pieces, p...)
			for range nots {
				f = not(f)
			}
			and = append(and, f)
		}
		or = append(or, rowOf(api.And, and))
	}
	return pieces, rowOf(api.Or, or)
}

// rowOf is one filter, or a row of more.
func rowOf(op int, list []api.Filter) api.Filter {
	if len(list) == 1 {
		return list[0]
	}
	return of(op, list...)
}

// Filters are what was said, whatever stands within what.
func TestP7_1_AnyFilters(t *testing.T) {
	r := rand.New(rand.NewSource(71))
	n := 0
	for range 20000 {
		pieces, f := filterOf(r, r.Intn(9), 1+r.Intn(3))
		s, _ := joined(pieces)
		s = base + "find " + s + " limit 1"
		if len(s) > api.MaxQuery {
			fails(t, s, api.ErrLimit, 1)
			continue
		}
		n++
		answers(t, s, finds(f))
	}
	if n < 10000 {
		t.Errorf("only %d queries", n)
	}
}

// ends asks whether Parse answers a query, whose filter can be, or a fault, and never both.
func ends(t *testing.T, s string) {
	t.Helper()
	q, fault := parse.Parse(s)
	if fault == (api.Fault{}) {
		if !tree.Good(q.Filter) || q.Limit < 1 || q.Limit > 50 || q.From > q.To || len(q.Match) > 4 {
			t.Errorf("%s: %v can't be", short(s), q)
		}
		return
	}
	if !slices.Contains([]api.Errno{api.ErrLex, api.ErrSyntax, api.ErrLimit, api.ErrRange}, fault.Err) || fault.At < 1 || fault.At > len(s)+1 {
		t.Errorf("%s: %v", short(s), fault)
	}
	if !tree.Same(q, api.Query{}) {
		t.Errorf("%s: a query beside a fault: %v", short(s), q)
	}
}

// The deepest filters that can be said can be.
func TestP7_2_DeepestFilters(t *testing.T) {
	s, f := "true or true and has \"x\"", of(api.Or, yes(), of(api.And, yes(), has("x")))
	for n := range 9 {
		answers(t, base+"find "+s+" limit 1", finds(f))
		ends(t, base+"find "+s+" limit 1")
		deepest := 0
		for _, depth := range tree.All(f) {
			deepest = max(deepest, depth)
		}
		if deepest != 2*n+2 || !tree.Good(f) {
			t.Errorf("%d brackets: %d deep, %v", n, deepest, tree.Good(f))
		}
		s, f = "true or true and ("+s+")", of(api.Or, yes(), of(api.And, yes(), f))
	}
	fails(t, base+"find "+s+" limit 1", api.ErrLimit, len(base+"find ")+9*18)
	ends(t, base+"find "+s+" limit 1")
}

// Any tokens in any order, and as many as a query can have.
func TestP7_2_AnyTokens(t *testing.T) {
	r := rand.New(rand.NewSource(72))
	for range 30000 {
		var pieces []string
		for range r.Intn(30) {
			pieces = append(pieces, tokens[r.Intn(len(tokens))])
		}
		s := strings.Join(pieces, " ")
		ends(t, s)
		ends(t, base+"find "+s)
		ends(t, base+s+" limit 1")
	}
	for _, x := range tokens {
		for _, ahead := range []string{"", base, base + "find ", base + "find true ", base + "limit 1 "} {
			for n := range 1025 / (len(x) + 1) {
				ends(t, ahead+strings.Repeat(x+" ", n))
			}
			ends(t, ahead+strings.Repeat(x+" ", 2000))
		}
	}
}

// Any bytes, and queries in which some are otherwise.
func TestP7_2_AnyBytes(t *testing.T) {
	r := rand.New(rand.NewSource(73))
	good, _ := joined(whole)
	for range 30000 {
		b := make([]byte, r.Intn(1100))
		for i := range b {
			b[i] = byte(r.Intn(256))
		}
		ends(t, string(b))
		b = []byte(good)
		for range r.Intn(4) {
			b[r.Intn(len(b))] = ` "\=!()x0-`[r.Intn(10)]
		}
		ends(t, string(b))
		at := r.Intn(len(b))
		ends(t, string(b[:at]))
		ends(t, string(b[at:])+string(b[:at]))
	}
	for _, s := range []string{strings.Repeat("(", 1<<16), strings.Repeat("not ", 1<<16), base + "find " + strings.Repeat("(", 1000), base + "find " + strings.Repeat("true and ", 1<<16), "\x00", "\ufffd", "\xff\xfe"} {
		ends(t, s)
	}
}
