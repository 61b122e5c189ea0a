package match_test

import (
	"iter"
	"math"
	"slices"
	"strings"
	"testing"

	"magpie/api"
	"magpie/match"
	"magpie/tree"
)

func of(op int, kids ...api.Filter) api.Filter { return api.Filter{Op: op, Kids: kids} }

func yes() api.Filter { return of(api.True) }

func no() api.Filter { return of(api.False) }

func word(s string) api.Filter { return api.Filter{Op: api.Word, Text: s} }

func has(s string) api.Filter { return api.Filter{Op: api.Has, Text: s} }

func field(name, text string) api.Filter {
	return api.Filter{Op: api.Field, Name: name, Text: text}
}

func not(f api.Filter) api.Filter { return of(api.Not, f) }

func and(kids ...api.Filter) api.Filter { return of(api.And, kids...) }

func or(kids ...api.Filter) api.Filter { return of(api.Or, kids...) }

// keeps asks whether a filter that can be keeps a line just if it should: alone, in a query, and within others.
func keeps(t *testing.T, f api.Filter, line string, want bool) {
	t.Helper()
	if !tree.Good(f) {
		t.Fatalf("%v can't be", f)
	}
	if match.Line(f, line) != want {
		t.Errorf("%.200v keeps %.200q: %v", f, line, !want)
	}
	if match.Query(api.Query{Filter: f}, api.Entry{Line: line}) != want {
		t.Errorf("a query with %.200v keeps %.200q: %v", f, line, !want)
	}
	for _, within := range []api.Filter{and(f, yes()), and(yes(), f), or(f, no()), or(no(), f), not(not(f))} {
		if tree.Good(within) && match.Line(within, line) != want {
			t.Errorf("%.200v keeps %.200q: %v", within, line, !want)
		}
	}
	if g := not(f); tree.Good(g) && match.Line(g, line) == want {
		t.Errorf("%.200v keeps %.200q: %v", g, line, want)
	}
}

// isLetter answers, by the chapter of words alone, whether a rune is a word's.
func isLetter(c rune) bool {
	return '0' <= c && c <= '9' || 'A' <= c && c <= 'Z' || c == '_' || 'a' <= c && c <= 'z' || c >= 0x80 && c != 0xfffd
}

// hasWord answers, by the library alone, whether a text has a word.
func hasWord(line, w string) bool {
	return slices.Contains(strings.FieldsFunc(line, func(c rune) bool { return !isLetter(c) }), w)
}

// hasText answers, byte by byte, whether a text stands in a line.
func hasText(line, s string) bool {
	for from := 0; from+len(s) <= len(line); from++ {
		if line[from:from+len(s)] == s {
			return true
		}
	}
	return false
}

// hasField answers, by all that is between a line's blanks, whether a piece is that name and that text.
func hasField(line, name, text string) bool {
	return slices.Contains(strings.Split(line, " "), name+"="+text)
}

// wanted answers, by the chapter's words, whether a filter keeps a line.
func wanted(f api.Filter, line string) bool {
	all, one := true, false
	for _, kid := range f.Kids {
		kept := wanted(kid, line)
		all, one = all && kept, one || kept
	}
	return map[int]bool{
		api.True: true, api.False: false, api.Word: hasWord(line, f.Text), api.Has: hasText(line, f.Text), api.Field: hasField(line, f.Name, f.Text),
		api.Not: !all, api.And: all, api.Or: one,
	}[f.Op]
}

// made goes over all texts of so many pieces at most.
func made(pieces []string, most int) iter.Seq[string] {
	return func(yield func(string) bool) { more(pieces, most, "", yield) }
}

// more goes over a text, and all those that go on with so many pieces at most; false: it was left.
func more(pieces []string, most int, s string, yield func(string) bool) bool {
	if !yield(s) {
		return false
	}
	if most == 0 {
		return true
	}
	for _, piece := range pieces {
		if !more(pieces, most-1, s+piece, yield) {
			return false
		}
	}
	return true
}

// odd are lines that are empty, of blanks alone, with two blanks in a row, and that are no UTF-8.
var odd = []string{
	"", " ", "  ", "   ", strings.Repeat(" ", 200), "a  b", "  a", "a  ", " a b ", "k=v  k=w", "\t", "\n", "a\nb", "\x00", "\u00a0", "\u3000",
	"\xff", "\xff\xff", "\x80", "a\xff", "\xffa", "a\xffb", "a \xff b", "\xe4\xb8", "a\xe4\xb8", "\xe4\xb8 a", "k=\xff", "\xff=v", "k=v\xff", "\xffk=v", "\ufffd", "a\ufffdb", "é\xa9", "\xc3é",
}

func TestP9_1_TrueAndFalse(t *testing.T) {
	for _, line := range append([]string{"a", "get /a 200", "true", "false", "é", strings.Repeat("x", 1<<17)}, odd...) {
		keeps(t, yes(), line, true)
		keeps(t, no(), line, false)
	}
	for c := range 256 {
		keeps(t, yes(), string([]byte{byte(c)}), true)
		keeps(t, no(), string([]byte{byte(c)}), false)
	}
}

func TestP9_1_Words(t *testing.T) {
	for _, c := range []struct {
		text, line string
		want       bool
	}{
		{"get", "GET get", true}, {"get", "getting", false},
		// At the beginning, within, at the end, alone, twice.
		{"get", "get /a 200", true}, {"a", "get /a 200", true}, {"200", "get /a 200", true}, {"get", "get", true}, {"get", " get", true}, {"get", "get ", true}, {"get", "get-get", true},
		// As a part of a longer one, at each of its ends, and beside one.
		{"20", "get /a 200", false}, {"00", "get /a 200", false}, {"0", "get /a 200", false}, {"2001", "get /a 200", false}, {"get", "get_", false}, {"get", "_get", false}, {"get", "get1", false}, {"get", "1get", false}, {"get", "getget", false}, {"get", "getting get", true}, {"get", "forget get", true}, {"get", "geté", false}, {"get", "éget", false},
		// What stands around it needn't be a blank.
		{"v", "k=v", true}, {"k", "k=v", true}, {"b", "a\tb\nc", true}, {"b", "a\x00b\x7fc", true}, {"b", `"b"`, true}, {"b", "(b)", true}, {"b", "a-b.c", true},
		// Letters are taken as they are.
		{"GET", "get", false}, {"Get", "GET get", false}, {"é", "É", false}, {"A9_z", "x A9_z", true},
		// Beyond ASCII.
		{"é", "é", true}, {"é", "a é b", true}, {"é", "a-é-b", true}, {"é", "aé", false}, {"é", "éa", false}, {"世界", "世界 a", true}, {"世", "世界", false}, {"\u00a0", "\u00a0", true}, {"\u00a0", "a\u00a0b", false}, {"a\u00a0b", "a\u00a0b c", true}, {"\u0080", "\u007f\u0080\u007f", true}, {"\U0010ffff", "a \U0010ffff", true}, {"\ufffc", "\ufffc\ufffd\ufffe", true}, {"\ufffe", "\ufffc\ufffd\ufffe", true}, {"a", "a\ufffdb", true}, {"e\u0301", "é", false},
		// Texts that are no word are words of nothing.
		{"", "", false}, {"", " ", false}, {"", "a", false}, {"", "a b", false}, {" ", " ", false}, {"-", "-", false}, {"a b", "a b", false}, {"a-b", "a-b", false}, {"k=v", "k=v", false}, {" a", " a", false}, {"a ", "a ", false}, {"a\n", "a\n", false}, {"\ufffd", "\ufffd", false}, {"a\ufffd", "a\ufffd", false}, {"\xff", "\xff", false}, {"a\xff", "a\xff", false}, {"\xc3", "é", false}, {"\xc3", "\xc3", false}, {"\ufffd", "\xff", false}, {"\xff", "\ufffd", false},
		// Lines that are no UTF-8.
		{"a", "a\xff", true}, {"a", "\xffa", true}, {"b", "a\xffb", true}, {"ab", "a\xffb", false}, {"é", "é\xa9", true}, {"é", "\xc3é", true}, {"a", "\xe4\xb8a", true}, {"a", "\xff", false},
		// Lines without words.
		{"a", "", false}, {"a", " ", false}, {"a", "   ", false}, {"a", "--", false}, {"a", "  a  b", true}, {"b", "a  b", true},
	} {
		keeps(t, word(c.text), c.line, c.want)
		if hasWord(c.line, c.text) != c.want {
			t.Errorf("%q, %q: the test itself", c.text, c.line)
		}
	}
}

func TestP9_1_Has(t *testing.T) {
	for _, c := range []struct {
		text, line string
		want       bool
	}{
		// An empty text stands in every line.
		{"", "", true}, {"", " ", true}, {"", "a", true}, {"", "\xff", true}, {"", "\n", true},
		{"get", "get /a", true}, {"et /", "get /a", true}, {"/a", "get /a", true}, {"get /a", "get /a", true}, {"get", "getting", true}, {"get", "forget it", true}, {"g", "getting", true},
		{"get ", "get", false}, {" get", "get", false}, {"gets", "get", false}, {"gt", "get", false}, {"get a", "get /a", false}, {"a/", "get /a", false}, {"GET", "get", false}, {"a", "", false}, {" ", "", false}, {"aab", "aaab", true}, {"abab", "abaab", false}, {"abac", "ababac", true},
		{" ", "a b", true}, {"  ", "a b", false}, {"  ", "a  b", true}, {"   ", "  ", false}, {" ", "   ", true}, {"\t", " ", false}, {"\n", "a\nb", true}, {"\x00", "a\x00", true}, {"\x00", "a", false},
		{"k=v", "k=v", true}, {"k=v", "ak=vb", true}, {"=", "k=v", true}, {`"`, `"a"`, true}, {`\`, `\`, true}, {`\"`, `"`, false},
		// Texts are taken byte by byte.
		{"é", "aéb", true}, {"é", "É", false}, {"e", "é", false}, {"\xc3", "é", true}, {"\xa9", "é", true}, {"\xa9a", "éa", true}, {"界", "世界", true}, {"\xff", "a\xffb", true}, {"\xff", "é", false}, {"\xff", "\ufffd", false}, {"\ufffd", "\xff", false}, {"\ufffd", "a\ufffdb", true}, {"e\u0301", "é", false}, {"\xffa", "\xff\xffa", true},
	} {
		keeps(t, has(c.text), c.line, c.want)
		if hasText(c.line, c.text) != c.want {
			t.Errorf("%q, %q: the test itself", c.text, c.line)
		}
	}
}

func TestP9_1_Fields(t *testing.T) {
	for _, c := range []struct {
		name, text, line string
		want             bool
	}{
		// Between two blanks, at either end, alone.
		{"k", "v", "a k=v b", true}, {"k", "v", "k=v b", true}, {"k", "v", "a k=v", true}, {"k", "v", "k=v", true}, {"k", "v", " k=v", true}, {"k", "v", "k=v ", true}, {"k", "v", " k=v ", true}, {"k", "v", "  k=v  ", true}, {"k", "v", "a  k=v", true}, {"k", "v", "k=w k=v", true}, {"k", "v", "k=v k=w", true}, {"k", "v", "k=v k=v", true},
		// As a part of a longer piece.
		{"k", "v", "k=va", false}, {"k", "v", "ak=v", false}, {"k", "v", "k=v=", false}, {"k", "v", "a k=v, b", false}, {"k", "v", "k=v,k=v", false}, {"k", "v", "k==v", false}, {"k", "v", "k=v\"", false}, {"k", "v", "-k=v", false}, {"k", "v", "a=k=v", false}, {"k", "v", "k=vé", false}, {"k", "v", "k=vv k=v", true}, {"k", "v", "kk=v", false}, {"k", "vv", "k=v", false}, {"kk", "v", "k=v", false}, {"k", "v", "k=", false}, {"k", "v", "=v", false}, {"k", "v", "k v", false}, {"k", "v", "k =v", false}, {"k", "v", "k= v", false}, {"k", "v", "kv", false}, {"k", "v", "v=k", false},
		// Nothing but a blank parts pieces.
		{"k", "v", "a\tk=v", false}, {"k", "v", "k=v\tb", false}, {"k", "v", "k=v\n", false}, {"k", "v", "\nk=v", false}, {"k", "v", "a\u00a0k=v", false}, {"k", "v", "k=v\u3000b", false}, {"k", "v", "k=v\x00", false}, {"k", "v", "k=v\r", false},
		// Empty in its text.
		{"k", "", "k=", true}, {"k", "", "a k= b", true}, {"k", "", "k= ", true}, {"k", "", " k=", true}, {"k", "", "k=v", false}, {"k", "", "k", false}, {"k", "", "", false}, {"k", "", " ", false}, {"k", "", "=", false}, {"k", "", "k==", false}, {"k", "", "k=v k=", true}, {"k", "", "ak=", false}, {"k", "", "k =", false},
		// With = and others within its text.
		{"k", "a=b", "k=a=b", true}, {"k", "a=b", "x k=a=b y", true}, {"k", "=", "k==", true}, {"k", "=", "k=", false}, {"k", "==", "k===", true}, {"k", "a", "k=a=b", false}, {"a", "b", "k=a=b", false}, {"k", "k=v", "k=k=v", true}, {"k", "=v", "k==v", true}, {"ok", `"1"`, `ok="1"`, true}, {"ok", "1", `ok="1"`, false}, {"k", `\`, `k=\`, true}, {"k", "v\tw", "k=v\tw", true}, {"k", "v\n", "k=v\n", true},
		// Within no piece there is a blank.
		{"k", " ", "k= ", false}, {"k", "v w", "k=v w", false}, {"k", "v ", "k=v ", false}, {"k", " v", "k= v", false}, {"k", "v k=v", "k=v k=v", false}, {"k", "  ", "k=  ", false},
		// Letters are taken as they are, bytes too.
		{"k", "v", "K=v", false}, {"K", "v", "k=v", false}, {"k", "v", "k=V", false}, {"k", "é", "k=é", true}, {"k", "é", "k=É", false}, {"k", "\xc3", "k=é", false}, {"k", "\xff", "k=\xff", true}, {"k", "\xff", "k=\ufffd", false}, {"k", "\ufffd", "k=\xff", false}, {"k", "v", "k=v\xff", false}, {"k", "v", "\xffk=v", false}, {"k", "v", "\xff k=v \xff", true}, {"_A9", "v", "_A9=v", true}, {strings.Repeat("n", 20), "v", strings.Repeat("n", 20) + "=v", true}, {strings.Repeat("n", 20), "v", strings.Repeat("n", 21) + "=v", false},
		// Lines that are empty, or have no other piece than empty ones.
		{"k", "v", "", false}, {"k", "v", " ", false}, {"k", "v", "   ", false}, {"k", "v", "a  b", false},
	} {
		keeps(t, field(c.name, c.text), c.line, c.want)
		if hasField(c.line, c.name, c.text) != c.want {
			t.Errorf("%q, %q, %q: the test itself", c.name, c.text, c.line)
		}
	}
}

func TestP9_1_OddLines(t *testing.T) {
	texts := []string{"", " ", "  ", "a", "b", "ab", "a b", "v", "w", "é", "\xff", "\xe4\xb8", "\ufffd", "\n", "\t", "\u00a0", "\u3000", "\x00", "k=v", "v\xff"}
	for _, line := range odd {
		for _, s := range texts {
			keeps(t, word(s), line, hasWord(line, s))
			keeps(t, has(s), line, hasText(line, s))
			keeps(t, field("k", s), line, hasField(line, "k", s))
		}
	}
}

// All texts of few pieces, asked of all lines of them: a word's runes, others, blanks, and bytes that are a rune together alone.
func TestP9_1_EveryLineAndTextOfPieces(t *testing.T) {
	pieces := []string{"a", "é", "-", " ", "=", "\xc3", "\xa9", "\ufffd"}
	texts := slices.Collect(made(pieces, 2))
	for line := range made(pieces, 4) {
		for _, s := range texts {
			if got, want := match.Line(word(s), line), hasWord(line, s); got != want {
				t.Fatalf("word %q keeps %q: %v", s, line, got)
			}
			if got, want := match.Line(has(s), line), hasText(line, s); got != want {
				t.Fatalf("has %q keeps %q: %v", s, line, got)
			}
			if got, want := match.Line(field("a", s), line), hasField(line, "a", s); got != want {
				t.Fatalf("field a=%q keeps %q: %v", s, line, got)
			}
		}
	}
}

// All lines of few pieces, of which fields are made.
func TestP9_1_EveryLineOfFieldsPieces(t *testing.T) {
	pieces := []string{"k", "=", " ", "v", "k=v"}
	texts := slices.Collect(made(pieces, 2))
	for line := range made(pieces, 6) {
		for _, s := range texts {
			if got, want := match.Line(field("k", s), line), hasField(line, "k", s); got != want {
				t.Fatalf("field k=%q keeps %q: %v", s, line, got)
			}
		}
	}
}

// Each byte ahead of what is looked for, behind it, and within it.
func TestP9_1_EveryByteAround(t *testing.T) {
	for c := range 256 {
		one := string([]byte{byte(c)})
		for _, line := range []string{one + "k=v", "k=v" + one, one + "k=v" + one, "k" + one + "v", "k=v" + one + "k=v", "k=" + one, one} {
			for _, f := range []api.Filter{word("k"), word("v"), word("kv"), word("k" + one), word(one), has("k=v"), has("=v"), has(one), has("v" + one), field("k", "v"), field("k", ""), field("k", one), field("k", "v"+one)} {
				keeps(t, f, line, wanted(f, line))
			}
		}
	}
}

func TestP9_1_LongLines(t *testing.T) {
	for _, size := range []int{api.MaxLine, api.MaxQuery, api.MaxScript, 1 << 17} {
		xs := strings.Repeat("x", size)
		keeps(t, word(xs), xs, true)
		keeps(t, word(xs[1:]), xs, false)
		keeps(t, word(xs), "a "+xs+" b", true)
		keeps(t, has(xs), "a"+xs, true)
		keeps(t, has(xs+"x"), xs, false)
		keeps(t, field("k", xs), "k="+xs, true)
		keeps(t, field("k", xs[1:]), "k="+xs, false)
		blanks := strings.Repeat(" ", size)
		keeps(t, word("a"), blanks, false)
		keeps(t, word("a"), blanks+"a"+blanks, true)
		keeps(t, has(blanks), blanks, true)
		keeps(t, has(blanks+" "), blanks, false)
		keeps(t, field("k", ""), blanks, false)
		keeps(t, field("k", ""), blanks+"k="+blanks, true)
		keeps(t, field("k", "v"), strings.Repeat("k=w ", size)+"k=v", true)
		keeps(t, field("k", "v"), strings.Repeat("k=w ", size), false)
	}
}

// onEachSide are filters that keep the line "get k=v", and such that don't, of each kind without kids.
func onEachSide() (kept, dropped []api.Filter) {
	kept = []api.Filter{yes(), word("get"), has("t k"), has(""), field("k", "v"), not(no()), not(word("ge"))}
	dropped = []api.Filter{no(), word("ge"), word(""), has("kv"), field("k", ""), not(yes()), not(has("k"))}
	return kept, dropped
}

// Rows of two and more kids: each kid, in all ways, keeps the line or doesn't.
func TestP9_1_Rows(t *testing.T) {
	kept, dropped := onEachSide()
	for n := 2; n <= 7; n++ {
		for ways := range 1 << n {
			var kids []api.Filter
			for i := range n {
				if ways>>i&1 == 1 {
					kids = append(kids, kept[(i+ways)%len(kept)])
				} else {
					kids = append(kids, dropped[(i+ways)%len(dropped)])
				}
			}
			all, one := ways == 1<<n-1, ways != 0
			keeps(t, and(kids...), "get k=v", all)
			keeps(t, or(kids...), "get k=v", one)
			keeps(t, not(and(kids...)), "get k=v", !all)
			keeps(t, not(or(kids...)), "get k=v", !one)
			keeps(t, and(or(kids...), not(and(kids...))), "get k=v", one && !all)
			keeps(t, or(and(kids...), not(or(kids...))), "get k=v", all || !one)
		}
	}
}

func TestP9_1_LongRows(t *testing.T) {
	for _, n := range []int{2, 64, 1000, 1 << 14} {
		for _, at := range []int{0, 1, n / 2, n - 1} {
			kids := slices.Repeat([]api.Filter{word("a")}, n)
			keeps(t, and(kids...), "a b", true)
			keeps(t, or(kids...), "b", false)
			kids[at] = word("b")
			keeps(t, and(kids...), "a b", true)
			keeps(t, and(kids...), "a", false)
			keeps(t, or(kids...), "b", true)
			keeps(t, or(kids...), "c", false)
		}
	}
}

func TestP9_1_WithinOneAnother(t *testing.T) {
	a, b, c := word("a"), has("-b-"), field("c", "1")
	for _, x := range []struct {
		f    api.Filter
		line string
		want bool
	}{
		{or(and(a, b), c), "a -b-", true}, {or(and(a, b), c), "a", false}, {or(and(a, b), c), "c=1", true}, {and(a, or(b, c)), "a c=1", true}, {and(a, or(b, c)), "-b- c=1", false}, {and(a, or(b, c)), "a", false},
		{and(or(a, b), not(c)), "a", true}, {and(or(a, b), not(c)), "a c=1", false}, {and(or(a, b), not(c)), "x", false}, {and(or(a, b), not(c)), "x-b-c=1", true},
		{not(and(a, not(b))), "a", false}, {not(and(a, not(b))), "a -b-", true}, {not(and(a, not(b))), "", true}, {not(or(a, not(b))), "-b-", true}, {not(or(a, not(b))), "a-b-", false},
		{and(not(a), not(b), not(c)), "", true}, {and(not(a), not(b), not(c)), "c=1", false}, {or(not(a), not(b), not(c)), "a-b- c=1", false}, {or(not(a), not(b), not(c)), "a-b-c=1", true},
		{and(and(a, b), and(b, c)), "a -b- c=1", true}, {and(and(a, b), and(b, c)), "a c=1", false}, {or(or(a, b), or(b, c)), "c=1", true}, {or(or(a, b), or(b, c)), "c=11", false},
		{not(and(word("GET"), no())), "GET", true}, {and(yes(), or(no(), not(no()))), "", true}, {or(no(), and(yes(), not(yes()))), "", false},
	} {
		keeps(t, x.f, x.line, x.want)
		if wanted(x.f, x.line) != x.want {
			t.Errorf("%v, %q: the test itself", x.f, x.line)
		}
	}
}

// deep are filters of which f stands n others deep, in several ways, by each of which the line "a" is kept as f keeps it, turned around as often as there are nots.
func deep(n int, f api.Filter) (list []api.Filter, turned []bool) {
	nots, first, last, mixed, around := f, f, f, f, false
	for i := range n {
		nots = not(nots)
		first = and(first, word("a"))
		last = or(has("b"), last)
		switch i % 3 {
		case 0:
			mixed = or(field("k", "v"), mixed)
		case 1:
			mixed, around = not(mixed), !around
		case 2:
			mixed = and(has("a"), mixed, not(no()))
		}
	}
	return []api.Filter{nots, first, last, mixed}, []bool{n%2 == 1, false, false, around}
}

// As deep as filters that can be may stand.
func TestP9_1_Deep(t *testing.T) {
	for n := range 2*api.MaxDepth + 3 {
		for text, want := range map[string]bool{"a": true, "c": false} {
			list, turned := deep(n, has(text))
			for i, f := range list {
				keeps(t, f, "a", want != turned[i])
			}
		}
	}
}

func TestP9_1_Kinds(t *testing.T) {
	for i, op := range []int{api.True, api.False, api.Word, api.Has, api.Field, api.Not, api.And, api.Or} {
		if op != i+1 {
			t.Errorf("kind %d is %d", i+1, op)
		}
	}
}

// Nothing but the line and the filter is looked at: the same is answered again, whatever was asked between.
func TestP9_1_HangsOnNothingElse(t *testing.T) {
	kept, dropped := onEachSide()
	for range 3 {
		for i := range kept {
			keeps(t, kept[i], "get k=v", true)
			keeps(t, dropped[i], "get k=v", false)
			match.Query(api.Query{From: math.MinInt, To: math.MaxInt, Filter: kept[i]}, api.Entry{Line: "x"})
		}
	}
}
