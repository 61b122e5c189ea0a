package parse_test

import (
	"strings"
	"testing"

	"magpie/api"
	"magpie/lex"
	"magpie/parse"
)

// whole is a query that has all parts and all of the grammar's words and signs, token by token.
var whole = strings.Split(`from -5 to 9 where app = "x" where env != "y" find word "a" and not ( has "b" or field k = "v" ) or true and false desc limit 50 page "p"`, " ")

// wholeQuery is what it says.
func wholeQuery() api.Query {
	return api.Query{From: -5, To: 9, Match: []api.Matcher{{Name: "app", Value: "x"}, {Name: "env", Not: true, Value: "y"}}, Desc: true, Limit: 50, Page: "p", Filter: of(api.Or,
		of(api.And, word("a"), not(of(api.Or, has("b"), field("k", "v")))),
		of(api.And, yes(), no()))}
}

// joined is what pieces say with one blank between, and where each begins; the last place is that of its end.
func joined(pieces []string) (string, []int) {
	var s string
	var places []int
	for i, p := range pieces {
		if i > 0 {
			s += " "
		}
		places = append(places, len(s)+1)
		s += p
	}
	return s, append(places, len(s)+1)
}

// with are pieces, with others in the place of some.
func with(pieces []string, at, some int, others ...string) []string {
	var out []string
	out = append(out, pieces[:at]...)
	out = append(out, others...)
	return append(out, pieces[at+some:]...)
}

func TestP7_1_Whole(t *testing.T) {
	s, _ := joined(whole)
	answers(t, s, wholeQuery())
}

// A text that breaks off behind a token is wrong at its end, unless it is a query up to there.
func TestP7_1_BreaksOff(t *testing.T) {
	for n := range whole {
		s, places := joined(whole[:n])
		if n == len(whole)-2 {
			want := wholeQuery()
			want.Page = ""
			answers(t, s, want)
			answers(t, s+"  ", want)
			continue
		}
		fails(t, s, api.ErrSyntax, places[n])
		fails(t, s+"  ", api.ErrSyntax, places[n]+2)
	}
	// Within a token it is layer 5's, or another token.
	s, _ := joined(whole)
	fails(t, s[:len(s)-1], api.ErrLex, len(s)-2)
	fails(t, s[:len(s)-2], api.ErrLex, len(s)-2)
	fails(t, s[:3], api.ErrSyntax, 1)
	fails(t, s[:8], api.ErrSyntax, 9)
	fails(t, s[:6], api.ErrLex, 6)
}

// What stands behind a query is a token too many.
func TestP7_1_TokenTooMany(t *testing.T) {
	for _, end := range []string{"limit 50", `limit 50 page "p"`, `limit 50 page ""`, "desc limit 50", `find true limit 50`} {
		for _, one := range []string{"from", "to", "where", "find", "desc", "limit", "page", "and", "or", "not", "word", "has", "field", "true", "false", "x", "5", `"p"`, "=", "!=", "(", ")", "limit 50", "and true", `where a="x"`} {
			if one == "page" && strings.HasSuffix(end, "50") {
				fails(t, base+end+" page", api.ErrSyntax, len(base+end)+6)
				continue
			}
			fails(t, base+end+" "+one, api.ErrSyntax, len(base+end)+2)
		}
	}
	for at, piece := range whole {
		// A not more is one, as is a matcher's or an atom's fault the next token's.
		if piece == "not" {
			continue
		}
		s, places := joined(with(whole, at, 1, piece, piece))
		if piece == "(" {
			// It opens once more, and desc stands where it should close.
			fails(t, s, api.ErrSyntax, strings.Index(s, "desc")+1)
			continue
		}
		fails(t, s, api.ErrSyntax, places[at+1])
	}
}

// One too few: what stands behind it is wrong, if it can't go on what stands ahead.
func TestP7_1_TokenTooFew(t *testing.T) {
	for at, piece := range whole {
		s, places := joined(with(whole, at, 1))
		switch piece {
		case "not", "desc":
			if q, fault := parse.Parse(s); fault != (api.Fault{}) || q.Limit != 50 {
				t.Errorf("%s: %v", s, fault)
			}
		case "(":
			fails(t, s, api.ErrSyntax, strings.Index(s, ")")+1)
		case ")":
			fails(t, s, api.ErrSyntax, strings.Index(s, "desc")+1)
		default:
			fails(t, s, api.ErrSyntax, places[at])
		}
	}
}

// Words of the grammar are so as they stand; in another case they are names.
func TestP7_1_WordsInAnotherCase(t *testing.T) {
	for at, piece := range whole {
		if !lex.IsWord(piece) {
			continue
		}
		for _, other := range []string{strings.ToUpper(piece), strings.ToUpper(piece[:1]) + piece[1:], piece[:len(piece)-1] + strings.ToUpper(piece[len(piece)-1:]), piece + "s", "_" + piece} {
			s, places := joined(with(whole, at, 1, other))
			fails(t, s, api.ErrSyntax, places[at])
		}
	}
	// Where a name should stand they are some.
	for _, w := range []string{"From", "LIMIT", "Not", "tO", "pages"} {
		want := finds(field(w, "v"))
		want.Match = []api.Matcher{{Name: w, Value: "x"}}
		answers(t, base+"where "+w+`="x" find field `+w+`="v" limit 1`, want)
	}
}

// What a token says counts for words and signs alone: a Text that says one is none.
func TestP7_1_TextsThatSayOtherTokens(t *testing.T) {
	for at, piece := range whole {
		if piece[0] == '"' {
			for _, other := range []string{"from", "5", "x", "=", "(", "true"} {
				s, places := joined(with(whole, at, 1, other))
				fails(t, s, api.ErrSyntax, places[at])
			}
			continue
		}
		s, places := joined(with(whole, at, 1, lex.Quote(piece)))
		fails(t, s, api.ErrSyntax, places[at])
	}
}

func TestP7_1_Syntax(t *testing.T) {
	n := len(base)
	for _, x := range []struct {
		s  string
		at int
	}{
		{"from", 5}, {"from ", 6}, {"to 5", 1}, {"limit 5", 1}, {"find true limit 5", 1}, {"from to 9 limit 5", 6}, {"from 0 9 limit 5", 8}, {"from 0 to limit 5", 11}, {`from "0" to 9 limit 5`, 6}, {"from a to 9 limit 5", 6}, {"from 0 to 9 to 10 limit 5", 13}, {"from = 0 to 9 limit 5", 6}, {"to 9 from 0 limit 5", 1}, {"from 0 0 to 9 limit 5", 8},
		{base, n + 1}, {base + "9 limit 5", n + 1}, {base + "true limit 5", n + 1}, {base + "limit", n + 6}, {base + "limit x", n + 7}, {base + `limit "5"`, n + 7}, {base + "limit limit 5", n + 7}, {base + "limit = 5", n + 7}, {base + "limit 5 5", n + 9}, {base + "limit 5 limit 5", n + 9}, {base + "limit 5 desc", n + 9}, {base + "limit 5 find true", n + 9},
		{base + "desc desc limit 5", n + 6}, {base + "desc find true limit 5", n + 6}, {base + "desc", n + 5}, {base + "find true find true limit 5", n + 11}, {base + `find true where a="x" limit 5`, n + 11}, {base + "find true desc where", n + 16},
		{base + "where", n + 6}, {base + "where limit 5", n + 7}, {base + `where true="x" limit 5`, n + 7}, {base + `where "a"="x" limit 5`, n + 7}, {base + `where 5="x" limit 5`, n + 7}, {base + `where ="x" limit 5`, n + 7}, {base + `where where a="x" limit 5`, n + 7}, {base + `where a "x" limit 5`, n + 9}, {base + "where a limit 5", n + 9}, {base + `where a("x") limit 5`, n + 8}, {base + `where a=="x" limit 5`, n + 9}, {base + `where a!=="x" limit 5`, n + 10}, {base + `where a=!="x" limit 5`, n + 9}, {base + "where a=x limit 5", n + 9}, {base + "where a=5 limit 5", n + 9}, {base + "where a!=x limit 5", n + 10}, {base + "where a= limit 5", n + 10}, {base + "where a=", n + 9}, {base + "where a!=", n + 10}, {base + `where a="x" b="y" limit 5`, n + 13}, {base + `where a="x" and b="y" limit 5`, n + 13}, {base + `where not a="x" limit 5`, n + 7}, {base + `where (a="x") limit 5`, n + 7}, {base + `where a="x""y" limit 5`, n + 12},
		{base + "find limit 5", n + 6}, {base + "find", n + 5}, {base + "find desc limit 5", n + 6}, {base + `find "a" limit 5`, n + 6}, {base + "find a limit 5", n + 6}, {base + "find 5 limit 5", n + 6}, {base + `find a="x" limit 5`, n + 6}, {base + "find find true limit 5", n + 6}, {base + "find and true limit 5", n + 6}, {base + "find or true limit 5", n + 6}, {base + "find = limit 5", n + 6}, {base + "find ) limit 5", n + 6}, {base + "find () limit 5", n + 7}, {base + "find from limit 5", n + 6},
		{base + "find true true limit 5", n + 11}, {base + "find true false limit 5", n + 11}, {base + "find true not true limit 5", n + 11}, {base + "find true (true) limit 5", n + 11}, {base + `find true "a" limit 5`, n + 11}, {base + "find true and limit 5", n + 15}, {base + "find true or limit 5", n + 14}, {base + "find true and and true limit 5", n + 15}, {base + "find true and or true limit 5", n + 15}, {base + "find true or and true limit 5", n + 14}, {base + "find true or or true limit 5", n + 14}, {base + "find true and", n + 14}, {base + "find true or ", n + 14}, {base + "find true and desc limit 5", n + 15},
		{base + "find word limit 5", n + 11}, {base + "find word a limit 5", n + 11}, {base + "find word 5 limit 5", n + 11}, {base + `find word = "a" limit 5`, n + 11}, {base + `find word ("a") limit 5`, n + 11}, {base + `find word "a" "b" limit 5`, n + 15}, {base + `find word word "a" limit 5`, n + 11}, {base + `find has has "a" limit 5`, n + 10}, {base + "find has", n + 9}, {base + `find has word "a" limit 5`, n + 10},
		{base + "find field limit 5", n + 12}, {base + `find field "k"="v" limit 5`, n + 12}, {base + `find field = "v" limit 5`, n + 12}, {base + `find field 5="v" limit 5`, n + 12}, {base + `find field word="v" limit 5`, n + 12}, {base + `find field k "v" limit 5`, n + 14}, {base + `find field k!="v" limit 5`, n + 13}, {base + "find field k limit 5", n + 14}, {base + "find field k=v limit 5", n + 14}, {base + "find field k=5 limit 5", n + 14}, {base + `find field k=="v" limit 5`, n + 14}, {base + "find field k=", n + 14}, {base + "find field k", n + 13}, {base + "find field", n + 11}, {base + `find field k("v") limit 5`, n + 13},
		{base + "find not limit 5", n + 10}, {base + "find not", n + 9}, {base + "find not and true limit 5", n + 10}, {base + "find not) limit 5", n + 9}, {base + "find not () limit 5", n + 11}, {base + `find not "a" limit 5`, n + 10}, {base + "find true not limit 5", n + 11},
		{base + "find (true limit 5", n + 12}, {base + "find (true", n + 11}, {base + "find true) limit 5", n + 10}, {base + "find (true)) limit 5", n + 12}, {base + "find ((true) limit 5", n + 14}, {base + "find (true and) limit 5", n + 15}, {base + "find (true or) limit 5", n + 14}, {base + "find (and true) limit 5", n + 7}, {base + "find (true)(true) limit 5", n + 12}, {base + "find (true) true limit 5", n + 13}, {base + "find (limit 5)", n + 7}, {base + "find (true desc) limit 5", n + 12}, {base + "(find true) limit 5", n + 1}, {base + "find (", n + 7}, {base + "find )", n + 6},
	} {
		fails(t, x.s, api.ErrSyntax, x.at)
	}
}

// Of several faults the first from the left is told.
func TestP7_1_FirstFault(t *testing.T) {
	const most = "1099511627776"
	five := strings.Repeat(`where a="x" `, 5)
	nine := strings.Repeat("not ", 9)
	for _, x := range []struct {
		s   string
		err api.Errno
		at  int
	}{
		{"from 1099511627777 to 1099511627777 limit 51", api.ErrLimit, 6},
		{"from 1099511627777 to x limit 51", api.ErrLimit, 6},
		{"from 1099511627777 9 limit 51", api.ErrLimit, 6},
		{"from 1099511627777 to 0 limit 1", api.ErrLimit, 6},
		{"from x to 1099511627777 limit 51", api.ErrSyntax, 6},
		{"from " + most + " to 1099511627777 limit 51", api.ErrLimit, 23},
		{"from " + most + " to -1099511627777 limit 51", api.ErrLimit, 23},
		{"from 5 to -1099511627777 limit 1", api.ErrLimit, 11},
		{"from " + most + " to -" + most + " limit 51", api.ErrRange, 20},
		{"from 5 to 4 limit 51", api.ErrRange, 8},
		{"from 5 to 4 4 limit 51", api.ErrRange, 8},
		{"from 5 to 4 " + five, api.ErrRange, 8},
		{"from 5 to 4 find " + nine, api.ErrRange, 8},
		{"from 5 4 to 4 limit 51", api.ErrSyntax, 8},
		{"to from 5 to 4 limit 51", api.ErrSyntax, 1},
		{base + five + "limit 51", api.ErrLimit, 61},
		{base + five + "find " + nine + "true limit 51", api.ErrLimit, 61},
		{base + `where a="x" where 5 ` + five, api.ErrSyntax, 31},
		{base + strings.Repeat(`where a="x" `, 4) + "where where", api.ErrLimit, 61},
		{base + strings.Repeat(`where a="x" `, 3) + "where where where", api.ErrSyntax, 55},
		{base + "find " + nine + "x limit 51", api.ErrLimit, 50},
		{base + "find " + nine + nine + "true limit 1", api.ErrLimit, 50},
		{base + "find true true and " + nine + "x limit 51", api.ErrSyntax, 23},
		{base + "find " + strings.Repeat("(", 9) + ") limit 51", api.ErrLimit, 26},
		{base + "find " + strings.Repeat("(", 8) + ") limit 51", api.ErrSyntax, 26},
		{base + "find true and limit 51", api.ErrSyntax, 27},
		{base + "limit 51 page", api.ErrLimit, 19},
		{base + "limit 51 51", api.ErrLimit, 19},
		{base + "limit 50 51 page", api.ErrSyntax, 22},
		{base + "limit 50 page page", api.ErrSyntax, 27},
	} {
		fails(t, x.s, x.err, x.at)
	}
}

// Layer 5's fault is told ahead of all that is wrong with the tokens.
func TestP7_1_FaultsOfLetters(t *testing.T) {
	good, _ := joined(whole)
	for _, ahead := range []string{"", "x ", "to 5 ", good + " ", good + " x ", "from 9 to 8 ", "from 1099511627777 ", base + "limit 51 ", base + strings.Repeat(`where a="x" `, 5), base + "find " + strings.Repeat("not ", 9), base + "find ) "} {
		for _, bad := range []string{"!", "-", "-0", "007", "1x", "\n", "\t", "é", "\ufffd", "9223372036854775808", "-9223372036854775809", strings.Repeat("x", 21), `"a`, `"\n"`, "\"\n\"", "#", "<=", ","} {
			fails(t, ahead+bad, api.ErrLex, len(ahead)+1)
			fails(t, ahead+bad+" limit 51 !", api.ErrLex, len(ahead)+1)
		}
		fails(t, ahead+"! \xff", api.ErrLex, len(ahead)+3)
		fails(t, ahead+"\"\xff\"", api.ErrLex, len(ahead)+2)
		fails(t, ahead+strings.Repeat(" ", 1025-len(ahead)), api.ErrLimit, 1)
		fails(t, ahead+"! \xff"+strings.Repeat(" ", 1025), api.ErrLimit, 1)
	}
}

func TestP7_1_HowManyBytes(t *testing.T) {
	good, _ := joined(whole)
	for _, n := range []int{1022, 1023, 1024} {
		answers(t, good+strings.Repeat(" ", n-len(good)), wholeQuery())
		answers(t, strings.Repeat(" ", n-len(good))+good, wholeQuery())
		want := finds(yes())
		want.Page = strings.Repeat("p", n-len(base+`limit 1 page ""`))
		answers(t, base+"limit 1 page "+lex.Quote(want.Page), want)
		fails(t, strings.Repeat(" ", n), api.ErrSyntax, n+1)
		fails(t, base+strings.Repeat(" ", n-len(base)), api.ErrSyntax, n+1)
	}
	for _, n := range []int{1025, 1026, 2048, 1 << 17} {
		fails(t, good+strings.Repeat(" ", n-len(good)), api.ErrLimit, 1)
		fails(t, strings.Repeat(" ", n-len(good))+good, api.ErrLimit, 1)
		fails(t, base+"limit 1 page "+lex.Quote(strings.Repeat("p", n-len(base+`limit 1 page ""`))), api.ErrLimit, 1)
		fails(t, strings.Repeat(" ", n), api.ErrLimit, 1)
		fails(t, "to "+strings.Repeat("!", n), api.ErrLimit, 1)
		fails(t, strings.Repeat("\xff", n), api.ErrLimit, 1)
	}
}

// Texts that say nothing, or nothing of a query.
func TestP7_1_NoQueries(t *testing.T) {
	for n := range 20 {
		fails(t, strings.Repeat(" ", n), api.ErrSyntax, n+1)
	}
	for _, s := range []string{"x", "5", `""`, "=", "!=", "(", ")", "page", "true", "and", `"from 0 to 9 limit 1"`, "hello world", "From 0 to 9 limit 1", "FROM 0 TO 9 LIMIT 1", "fro m 0 to 9 limit 1", "x from 0 to 9 limit 1"} {
		fails(t, s, api.ErrSyntax, 1)
		fails(t, "  "+s, api.ErrSyntax, 3)
	}
	for c := range 256 {
		s := string([]byte{byte(c)})
		letter := 'a' <= c && c <= 'z' || 'A' <= c && c <= 'Z' || '0' <= c && c <= '9' || c == '_' || c == '=' || c == '(' || c == ')'
		switch {
		case letter:
			fails(t, s, api.ErrSyntax, 1)
		case c == ' ':
			fails(t, s, api.ErrSyntax, 2)
		default:
			fails(t, s, api.ErrLex, 1)
			fails(t, base+s, api.ErrLex, len(base)+1)
			fails(t, s+base+"limit 1", api.ErrLex, 1)
		}
	}
}
