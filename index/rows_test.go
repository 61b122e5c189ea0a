package index_test

import (
	"math"
	"slices"
	"strings"
	"testing"

	"magpie/api"
)

// Which of a line's words a question asks for: of each row one, of no rows none.
func TestP13_1_Rows(t *testing.T) {
	for _, c := range []struct {
		rows [][]string
		line string
		want bool
	}{
		// No rows ask for all lines, an empty one for none.
		{nil, "", true}, {nil, "-", true}, {nil, "a", true}, {[][]string{}, "a", true}, {[][]string{nil}, "", false}, {[][]string{nil}, "a", false}, {[][]string{{}}, "a", false}, {[][]string{{"a"}, nil}, "a", false}, {[][]string{nil, {"a"}}, "a", false}, {[][]string{{"a"}, nil, {"a"}}, "a", false}, {[][]string{nil, nil}, "a", false},
		// A word of a row, wherever it stands in the line, once or often.
		{[][]string{{"a"}}, "a", true}, {[][]string{{"a"}}, "b", false}, {[][]string{{"a"}}, "", false}, {[][]string{{"a"}}, "-", false}, {[][]string{{"a"}}, "b-a", true}, {[][]string{{"a"}}, "b a c", true}, {[][]string{{"a"}}, "A", false}, {[][]string{{"a"}}, "a a,a", true}, {[][]string{{"a"}}, strings.Repeat("a ", 100), true}, {[][]string{{"a", "a"}}, "a", true},
		// One of a row's, all, none.
		{[][]string{{"a", "b"}}, "a", true}, {[][]string{{"a", "b"}}, "b", true}, {[][]string{{"a", "b"}}, "b a", true}, {[][]string{{"a", "b"}}, "c", false}, {[][]string{{"a", "b", "c"}}, "x,c", true}, {[][]string{{"a", "b"}}, "ab", false}, {[][]string{{"none", "a", "none"}}, "a", true},
		// A part of a word.
		{[][]string{{"get"}}, "getting", false}, {[][]string{{"get"}}, "forget", false}, {[][]string{{"get"}}, "get_", false}, {[][]string{{"get"}}, "get1", false}, {[][]string{{"get"}}, "éget", false}, {[][]string{{"get"}}, "getting get", true}, {[][]string{{"getting"}}, "get ting", false}, {[][]string{{"ett"}}, "getting", false},
		// Of each row one; the same word may be in more of them.
		{[][]string{{"a", "b"}, {"c"}}, "c-b", true}, {[][]string{{"a", "b"}, {"c"}}, "a b", false}, {[][]string{{"a", "b"}, {"c"}}, "c", false}, {[][]string{{"a"}, {"a"}}, "a", true}, {[][]string{{"a"}, {"a"}}, "b", false}, {[][]string{{"a"}, {"b"}, {"c"}}, "c a", false}, {[][]string{{"a"}, {"b"}, {"c"}}, "a b", false}, {[][]string{{"a"}, {"b"}, {"c"}}, "b c", false}, {[][]string{{"a"}, {"b"}, {"c"}}, "c b a", true}, {[][]string{{"x", "a"}, {"a", "y"}}, "a", true}, {[][]string{{"a", "b"}, {"a", "b"}, {"c"}}, "a b", false}, {[][]string{{"a", "b", "a"}, {"c"}, {"b", "a"}}, "c a b", true},
		// What no word can be is no line's.
		{[][]string{{""}}, "", false}, {[][]string{{""}}, "a", false}, {[][]string{{"", "a"}}, "a", true}, {[][]string{{"a"}, {""}}, "a", false}, {[][]string{{"a b"}}, "a b", false}, {[][]string{{"a-"}}, "a-", false}, {[][]string{{" "}}, " ", false}, {[][]string{{"\xff"}}, "\xff", false}, {[][]string{{"\ufffd"}}, "\ufffd", false}, {[][]string{{"\ufffd"}}, "\xff", false},
		// Bytes that are no UTF-8 end words; runes from U+0080 on are words'.
		{[][]string{{"a"}}, "\xffa\xff", true}, {[][]string{{"é"}}, "é", true}, {[][]string{{"é"}}, "a é", true}, {[][]string{{"é"}}, "aé", false}, {[][]string{{"e"}}, "é", false},
		// As great as may be.
		{[][]string{{xs(1024)}}, xs(200), false}, {[][]string{{xs(1024), xs(200)}}, xs(200), true}, {slices.Repeat([][]string{{"a"}}, 64), "a", true}, {slices.Repeat([][]string{{"a"}}, 64), "b", false}, {append(slices.Repeat([][]string{{"a"}}, 63), row("b")), "a", false}, {append(slices.Repeat([][]string{{"a"}}, 63), row("b")), "b a", true}, {[][]string{append(make([]string, 63), "a")}, "a", true}, {slices.Repeat([][]string{slices.Repeat([]string{"b", "a"}, 32)}, 64), "a", true},
	} {
		e := entry(5, c.line, "app", "x")
		var want []api.Entry
		if c.want {
			want = []api.Entry{e}
		}
		asks(t, engine(e), always(c.rows...), api.Mark{}, false, 9, want, true)
		asks(t, engine(e), tokens(5, 5, c.rows...), api.Mark{}, true, 9, want, true)
		asks(t, engine(e), tokens(6, 9, c.rows...), api.Mark{}, false, 9, nil, true)
		asks(t, engine(entry(3, "q"), e, entry(3, "")), tokens(4, 9, c.rows...), api.Mark{}, false, 9, want, true)
	}
}

// wordsOf: by the chapters' words alone, of a line of letters, strokes, blanks and bytes that are no UTF-8.
func wordsOf(line string) []string {
	return strings.FieldsFunc(line, func(c rune) bool { return c == '-' || c == ' ' || c == '\ufffd' })
}

// keeps: by the chapters' words alone, whether a question asks for an entry.
func keeps(ask api.TokenAsk, e api.Entry) bool {
	if e.At < ask.From || e.At > ask.To {
		return false
	}
	for _, row := range ask.All {
		n := 0
		for _, w := range row {
			if slices.Contains(wordsOf(e.Line), w) {
				n++
			}
		}
		if n == 0 {
			return false
		}
	}
	return true
}

// kept are those of some entries for which a question asks.
func kept(ask api.TokenAsk, list []api.Entry) []api.Entry {
	var out []api.Entry
	for _, e := range list {
		if keeps(ask, e) {
			out = append(out, e)
		}
	}
	return out
}

// smallRows are all rows of up to two of a few words.
func smallRows() [][]string {
	words := []string{"a", "b", "ab", "", "-"}
	rows := [][]string{nil}
	for _, one := range words {
		rows = append(rows, row(one))
		for _, two := range words {
			rows = append(rows, row(one, two))
		}
	}
	return rows
}

// smallLines are entries in their order, each at a time of its own: all lines of up to four pieces.
func smallLines() []api.Entry {
	lines := []string{""}
	for from := 0; len(lines) < 341; from++ {
		for _, piece := range []string{"a", "b", "-", "\xff"} {
			lines = append(lines, lines[from]+piece)
		}
	}
	var out []api.Entry
	for i, line := range lines {
		out = append(out, entry(i, line))
	}
	return out
}

// All lines of a few pieces, asked for by all small rows: one, two, and the same one between others.
func TestP13_1_AllSmallRows(t *testing.T) {
	list := smallLines()
	g := engine(list...)
	ask := func(rows ...[]string) {
		q := always(rows...)
		asks(t, g, q, api.Mark{}, false, 1000, kept(q, list), true)
	}
	for _, one := range smallRows() {
		ask(one)
		for _, two := range smallRows() {
			ask(one, two)
			ask(one, two, one)
		}
	}
}

// A word asks for just the lines that have it, of words that begin, end or go on alike; as one of many entries and in any row.
func TestP13_1_EachWordIsItsOwn(t *testing.T) {
	var words []string
	var list []api.Entry
	for i := range 300 {
		w := strings.Repeat("a", 1+i%7) + strings.Repeat("b", i/7%7) + strings.Repeat("é", i/49)
		words = append(words, w)
		list = append(list, entry(i, "-"+w+"-z"))
	}
	g := engine(list...)
	for i, w := range words {
		var want []api.Entry
		for k, other := range words {
			if other == w {
				want = append(want, list[k])
			}
		}
		asks(t, g, always(row(w)), api.Mark{}, false, 1000, want, true)
		asks(t, g, always(row("z"), row("none", w)), api.Mark{}, false, 1000, want, true)
		asks(t, g, tokens(i, i, row(w), row("z", "none")), api.Mark{}, true, 1, list[i:i+1], true)
	}
}

// Each word of a line that has as many as can be, once and often, wherever it stands.
func TestP13_1_LinesOfManyWords(t *testing.T) {
	var short, long []string
	for c := 'a'; c <= 'z'; c++ {
		short = append(short, string(c), string(c-'a'+'A'))
		long = append(long, "_"+string(c))
	}
	list := []api.Entry{entry(1, strings.Join(long, "  ")), entry(2, strings.Join(short, " - ")[:199]), entry(3, strings.Join(append(long, short...), "-")), entry(4, strings.Repeat("a-B ", 50)), entry(5, strings.Repeat("-", 199)+"a")}
	g := engine(list...)
	has(t, g, list...)
	for _, w := range slices.Concat(short, long, row("aa", "_", "_a_b")) {
		for _, rows := range [][][]string{{{w}}, {{w, "none"}, {w}}, {{"_z", "Z", "a"}, {w}}} {
			q := always(rows...)
			asksAll(t, g, q, api.Mark{}, kept(q, list))
		}
	}
}

// Entries at From and at To are asked for, one ahead and one behind aren't; To below From asks for none.
func TestP13_1_Times(t *testing.T) {
	const most = api.MaxTime
	times := []int{-most, -most + 1, -6, -5, -4, -1, 0, 1, 2, 3, most - 1, most}
	var list []api.Entry
	for _, at := range times {
		list = append(list, entry(at, "a"), entry(at, "b"))
	}
	g := engine(list...)
	for _, from := range append([]int{-2, 5, most / 2}, times...) {
		for _, to := range append([]int{-2, 5, most / 2}, times...) {
			for _, rows := range [][][]string{nil, {{"a"}}, {{"b"}}, {{"a", "b"}}, {{"a"}, {"b"}}, {nil}} {
				q := tokens(from, to, rows...)
				asks(t, g, q, api.Mark{}, false, math.MaxInt, kept(q, list), true)
				asks(t, g, q, api.Mark{}, true, math.MaxInt, turned(kept(q, list), true), true)
			}
		}
	}
	asks(t, g, tokens(-5, -4, row("a")), api.Mark{}, false, 9, []api.Entry{entry(-5, "a"), entry(-4, "a")}, true)
	asks(t, g, tokens(-4, -5, row("a")), api.Mark{}, false, 9, nil, true)
	asks(t, g, tokens(most, -most), api.Mark{}, false, 9, nil, true)
}
