package dialect_test

import (
	"math"
	"slices"
	"strings"
	"testing"

	"magpie/api"
	"magpie/dialect"
)

// good asks whether a question can be just if it should; the same holds of any times that can be.
func good(t *testing.T, why string, ask any, want bool) {
	t.Helper()
	if dialect.Good(ask) != want {
		t.Errorf("%s: %v", why, !want)
	}
}

func TestP12_1_GoodOfNobodys(t *testing.T) {
	for _, ask := range nobodys() {
		good(t, text(ask), ask, false)
	}
}

// Times at both ends of what can be, and one beyond; which of the two comes first is all one.
func TestP12_1_GoodTimes(t *testing.T) {
	const most = api.MaxTime
	times := map[int]bool{
		0: true, 1: true, -1: true, most: true, -most: true, most - 1: true, -most + 1: true,
		most + 1: false, -most - 1: false, math.MaxInt: false, math.MinInt: false, math.MinInt + most: false, 1 << 62: false,
	}
	for from, first := range times {
		for to, second := range times {
			for _, ask := range []any{
				tokens(from, to), tokens(from, to, row("a", "b"), nil), streams(from, to), streams(from, to, is("app", "x")), scans(from, to),
			} {
				good(t, text(ask), ask, first && second)
			}
		}
	}
}

// wordy is so many rows of no words, but for one.
func wordy(rows, at int, words []string) api.TokenAsk {
	all := make([][]string, rows)
	all[at] = words
	return tokens(1, 9, all...)
}

func TestP12_1_GoodRows(t *testing.T) {
	good(t, "nil", api.TokenAsk{}, true)
	good(t, "no rows", api.TokenAsk{All: [][]string{}}, true)
	for n := range 131 {
		good(t, "nil rows", api.TokenAsk{All: make([][]string, n)}, n <= 64)
		good(t, "empty rows", tokens(1, 9, slices.Repeat([][]string{{}}, n)...), n <= 64)
		good(t, "rows of one", tokens(1, 9, slices.Repeat([][]string{{"a"}}, n)...), n <= 64)
		good(t, "rows of 64", tokens(1, 9, slices.Repeat([][]string{slices.Repeat([]string{"a"}, 64)}, n)...), n <= 64)
	}
	good(t, "2^16 rows", api.TokenAsk{All: make([][]string, 1<<16)}, false)
}

func TestP12_1_GoodWordsOfARow(t *testing.T) {
	for n := range 131 {
		for _, w := range []string{"a", "", "a b"} {
			words := slices.Repeat([]string{w}, n)
			good(t, "one row", wordy(1, 0, words), n <= 64)
			for _, at := range []int{0, 1, 31, 62, 63} {
				good(t, "one of 64 rows", wordy(64, at, words), n <= 64)
			}
			good(t, "one of 65 rows", wordy(65, 0, words), false)
		}
	}
	good(t, "2^16 words", wordy(1, 0, make([]string, 1<<16)), false)
}

// A word is any bytes, 2^10 at most.
func TestP12_1_GoodWords(t *testing.T) {
	for _, n := range []int{0, 1, 2, 20, 21, 200, 201, 511, 512, 513, 1022, 1023, 1024, 1025, 1026, 2048, 1 << 16} {
		for _, piece := range []string{"x", "\xff", "\n", "\x00", " "} {
			words := row(strings.Repeat(piece, n))
			good(t, "one word", wordy(1, 0, words), n <= 1024)
			good(t, "in the last row", wordy(64, 63, words), n <= 1024)
			for _, at := range []int{0, 1, 32, 62, 63} {
				many := make([]string, 64)
				many[at] = words[0]
				good(t, "one of 64 words", wordy(1, 0, many), n <= 1024)
				good(t, "in the last row, one of 64 words", wordy(64, 63, many), n <= 1024)
			}
		}
	}
	good(t, "1024 bytes that are 512 runes", wordy(1, 0, row(strings.Repeat("é", 512))), true)
	good(t, "1026 bytes that are 513 runes", wordy(1, 0, row(strings.Repeat("é", 513))), false)
	good(t, "all as great as can be", tokens(1, 9, slices.Repeat([][]string{slices.Repeat([]string{xs(1024)}, 64)}, 64)...), true)
}

func TestP12_1_GoodMatchers(t *testing.T) {
	good(t, "nil", api.StreamAsk{}, true)
	good(t, "no matchers", api.StreamAsk{Match: []api.Matcher{}}, true)
	for n := range 20 {
		for _, m := range []api.Matcher{is("app", "x"), isnt("app", "x"), is("a", ""), isnt("a", "")} {
			good(t, "matchers", streams(1, 9, slices.Repeat([]api.Matcher{m}, n)...), n <= 4)
		}
	}
	good(t, "2^16 matchers", streams(1, 9, slices.Repeat([]api.Matcher{is("a", "")}, 1<<16)...), false)
}

// matcher asks whether a matcher can be just if it should: alone, turned, and at each place among others.
func matcher(t *testing.T, m api.Matcher, want bool) {
	t.Helper()
	turned := m
	turned.Not = !m.Not
	for _, m := range []api.Matcher{m, turned} {
		for n := 1; n <= api.MaxMatchers; n++ {
			for at := range n {
				list := slices.Repeat([]api.Matcher{is("z", "z")}, n)
				list[at] = m
				ask := streams(-1, 1, list...)
				good(t, text(ask), ask, want)
			}
		}
	}
}

// A matcher's name is what can be a label's (layer 4): any of the table's, however they are ordered.
func TestP12_1_GoodNames(t *testing.T) {
	for _, name := range []string{"a", "z", "A", "Z", "_", "app", "a0", "_9", "limit", "from", "true", xs(19), xs(20)} {
		matcher(t, is(name, "x"), true)
	}
	for _, name := range []string{"", "0", "9a", "a b", " a", "a ", "a-b", "a=b", "a.b", "é", "aé", "a\xff", "\xff", "a\n", "\n", "\x00", `"a"`, xs(21), xs(1024)} {
		matcher(t, is(name, "x"), false)
	}
	for c := range 256 {
		one := string([]byte{byte(c)})
		letter := 'a' <= c && c <= 'z' || 'A' <= c && c <= 'Z' || c == '_'
		good(t, "a name of one byte", streams(1, 9, is(one, "")), letter)
		good(t, "a name's second byte", streams(1, 9, is("a"+one, "")), letter || '0' <= c && c <= '9')
	}
	good(t, "names that fall", streams(1, 9, is("b", ""), is("a", ""), is("b", "")), true)
}

// A matcher's value is what a Text can say (layer 5), of 2^10 bytes at most, be it longer than a label's or not.
func TestP12_1_GoodValues(t *testing.T) {
	for _, value := range []string{"", "a", "a b", `"`, `\`, "\x00", "\t", "\r", "\x7f", "é", "\ufffd", "\u2028", "\U0010ffff", xs(20), xs(21), xs(200), xs(1023), xs(1024), strings.Repeat("é", 512), strings.Repeat(`"`, 1024), strings.Repeat("\\", 1024)} {
		matcher(t, is("a", value), true)
	}
	for _, value := range []string{
		"\n", "a\n", "\na", "a\nb", "\xff", "\x80", "\xc3", "a\xc3", "\xc3a", "\xc0\x80", "\xed\xa0\x80", "\xf4\x90\x80\x80", "é\xff", xs(1023) + "\n", xs(1023) + "\xff",
		xs(1025), xs(1 << 16), strings.Repeat("é", 513), xs(1) + strings.Repeat("é", 512), xs(1024) + "\n", xs(1024) + "\xff",
	} {
		matcher(t, is("a", value), false)
	}
	for c := range 256 {
		one := string([]byte{byte(c)})
		for _, value := range []string{one, "a" + one, one + "a", xs(1023) + one} {
			good(t, "a value with a byte", streams(1, 9, is("a", value)), c < 128 && c != 10)
		}
	}
	for n := range 1100 {
		good(t, "a value of so many bytes", streams(1, 9, isnt("a", xs(n))), n <= 1024)
	}
}
