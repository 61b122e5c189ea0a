package word_test

import (
	"iter"
	"math"
	"slices"
	"strings"
	"testing"
	"unicode/utf8"

	"magpie/api"
	"magpie/word"
)

// letters are the ranges of words' runes, and all that lies between them isn't one's.
var letters = []struct {
	from, to rune
}{
	{'0', '9'},
	{'A', 'Z'},
	{'_', '_'},
	{'a', 'z'},
	{0x80, 0xfffc},
	{0xfffe, math.MaxInt32},
}

// lines are texts, their words, and their inner ones.
var lines = []struct {
	text         string
	words, inner []string
}{
	{"", nil, nil},
	{" ", nil, nil},
	{"-- .", nil, nil},
	{"a", []string{"a"}, nil},
	{"_", []string{"_"}, nil},
	{"0", []string{"0"}, nil},
	{"get", []string{"get"}, nil},
	{" get", []string{"get"}, nil},
	{"get ", []string{"get"}, nil},
	{" get ", []string{"get"}, []string{"get"}},
	{"ab-cd 7", []string{"ab", "cd", "7"}, []string{"cd"}},
	{"x-y", []string{"x", "y"}, nil},
	{"-x-y", []string{"x", "y"}, []string{"x"}},
	{"x-y-", []string{"x", "y"}, []string{"y"}},
	{"a  a a", []string{"a", "a", "a"}, []string{"a"}},
	{"a b a b a", []string{"a", "b", "a", "b", "a"}, []string{"b", "a", "b"}},
	{"b a c", []string{"b", "a", "c"}, []string{"a"}},
	{"GET get Get", []string{"GET", "get", "Get"}, []string{"get"}},
	{"a_b a-b a9b", []string{"a_b", "a", "b", "a9b"}, []string{"a", "b"}},
	{"user=ann size=7", []string{"user", "ann", "size", "7"}, []string{"ann", "size"}},
	{"é世 z", []string{"é世", "z"}, nil},
	{"a\u0080b\u007fc", []string{"a\u0080b", "c"}, nil},
	{"\u00a0\u3000", []string{"\u00a0\u3000"}, nil},
	{"a\ufffdb", []string{"a", "b"}, nil},
	{"\ufffda\ufffd", []string{"a"}, []string{"a"}},
	{"a\ufffcb\ufffec", []string{"a\ufffcb\ufffec"}, nil},
	{"a\U0010ffff", []string{"a\U0010ffff"}, nil},
	{"a\x00b\nc\td", []string{"a", "b", "c", "d"}, []string{"b", "c"}},
}

// broken are texts with bytes that are no UTF-8, their words, and their inner ones.
var broken = []struct {
	text         string
	words, inner []string
}{
	{"\xff", nil, nil},
	{"\x80", nil, nil},
	{"\xe4\xb8", nil, nil},
	{"a\xffb", []string{"a", "b"}, nil},
	{"\xffab", []string{"ab"}, nil},
	{"ab\xff", []string{"ab"}, nil},
	{"\xffab\xff", []string{"ab"}, []string{"ab"}},
	{"\xe4\xb8a ", []string{"a"}, []string{"a"}},
	{" a\xe4\xb8", []string{"a"}, []string{"a"}},
	{"a\xe4\xb8b\xf0\x9f\x90c", []string{"a", "b", "c"}, []string{"b"}},
	{"\xa9a-", []string{"a"}, []string{"a"}},
	{"é\xa9é", []string{"é", "é"}, nil},
	{"\xc3é\xa9", []string{"é"}, []string{"é"}},
	{"a\xc1\x81b", []string{"a", "b"}, nil},
	{"a\xed\xa0\x80b", []string{"a", "b"}, nil},
	{"a\xf4\x90\x80\x80b", []string{"a", "b"}, nil},
}

// pieces are what texts are made of: words' runes, the ends of others, others', and bytes that are a rune together alone.
var pieces = []string{"a", "7", "_", "é", "\u0080", "-", " ", "\ufffd", "\xc3", "\xa9", "\xff"}

// made goes over all texts of so many pieces at most.
func made(most int) iter.Seq[string] {
	return func(yield func(string) bool) {
		more(most, "", yield)
	}
}

// more goes over a text, and all those that go on with so many pieces at most; false: it was left.
func more(most int, s string, yield func(string) bool) bool {
	if !yield(s) {
		return false
	}
	if most == 0 {
		return true
	}
	for _, piece := range pieces {
		if !more(most-1, s+piece, yield) {
			return false
		}
	}
	return true
}

// isLetter answers, by the ranges alone, whether a rune is a word's.
func isLetter(c rune) bool {
	for _, l := range letters {
		if l.from <= c && c <= l.to {
			return true
		}
	}
	return false
}

// wordsOf answers, by what a word is alone, a text's words, and its inner ones.
func wordsOf(s string) (words, inner []string) {
	var starts []int
	var runes []rune
	for at, c := range s {
		starts, runes = append(starts, at), append(runes, c)
	}
	starts = append(starts, len(s))
	other := func(c rune) bool { return !isLetter(c) }
	for i := range runes {
		for j := i + 1; j <= len(runes); j++ {
			if slices.ContainsFunc(runes[i:j], other) || i > 0 && isLetter(runes[i-1]) || j < len(runes) && isLetter(runes[j]) {
				continue
			}
			one := s[starts[i]:starts[j]]
			words = append(words, one)
			if i > 0 && j < len(runes) {
				inner = append(inner, one)
			}
		}
	}
	return words, inner
}

// split asks whether a text has those words, and those inner ones, and is one word where it should.
func split(t *testing.T, s string, words, inner []string) {
	t.Helper()
	if got := slices.Collect(word.Words(s)); !slices.Equal(got, words) {
		t.Errorf("Words of %.40q: %.40q, not %.40q", s, got, words)
	}
	if got := slices.Collect(word.Inner(s)); !slices.Equal(got, inner) {
		t.Errorf("Inner of %.40q: %.40q, not %.40q", s, got, inner)
	}
	if got, want := word.Is(s), slices.Equal(words, []string{s}); got != want {
		t.Errorf("Is of %.40q: %v", s, got)
	}
	for _, w := range words {
		if !word.Has(s, w) {
			t.Errorf("%.40q hasn't the word %.40q", s, w)
		}
	}
}

func TestP3_1_LetterAtTheRangesEnds(t *testing.T) {
	for _, c := range []struct {
		rune rune
		is   bool
	}{
		{'/', false}, {'0', true}, {'9', true}, {':', false},
		{'@', false}, {'A', true}, {'Z', true}, {'[', false},
		{'^', false}, {'_', true}, {'`', false},
		{'a', true}, {'z', true}, {'{', false},
		{0x7f, false}, {0x80, true}, {0x81, true},
		{0xd7ff, true}, {0xe000, true},
		{0xfffc, true}, {0xfffd, false}, {0xfffe, true}, {0xffff, true}, {0x10000, true},
		{0x1fffd, true}, {0x10fffd, true}, {utf8.MaxRune, true},
		{0, false}, {'\n', false}, {' ', false}, {'-', false}, {'=', false}, {'.', false},
	} {
		if got := word.Letter(c.rune); got != c.is {
			t.Errorf("Letter of %x: %v", c.rune, got)
		}
	}
}

func TestP3_1_LetterEveryRune(t *testing.T) {
	for c := rune(0); c <= utf8.MaxRune; c++ {
		if got := word.Letter(c); got != isLetter(c) {
			t.Errorf("Letter of %x: %v", c, got)
		}
	}
}

// What no text has as a rune: numbers below 0 are in no range, those above the last rune are from U+0080 on, too.
func TestP3_1_LetterOfNoRune(t *testing.T) {
	for _, c := range []rune{-1, -'a', -0x80, -0xfffd, 'a' - 1<<16, 'a' - 1<<8, math.MinInt32, math.MinInt32 + 'a'} {
		if word.Letter(c) {
			t.Errorf("Letter of %d is true", c)
		}
	}
	for _, c := range []rune{0xd800, 0xdfff, utf8.MaxRune + 1, 1<<24 + 0xfffd, math.MaxInt32} {
		if !word.Letter(c) {
			t.Errorf("Letter of %x is false", c)
		}
	}
}

func TestP3_1_Lines(t *testing.T) {
	for _, c := range lines {
		split(t, c.text, c.words, c.inner)
	}
}

func TestP3_1_BrokenLines(t *testing.T) {
	for _, c := range broken {
		split(t, c.text, c.words, c.inner)
	}
}

// Each byte, and each rune at a range's end, at a text's beginning, between words, within one, at the end.
func TestP3_1_EveryByteAndEnd(t *testing.T) {
	var ones []string
	for c := range 256 {
		ones = append(ones, string([]byte{byte(c)}))
	}
	for _, l := range letters {
		for _, c := range []rune{l.from - 1, l.from, l.to, l.to + 1} {
			ones = append(ones, string(c))
		}
	}
	for _, one := range ones {
		for _, s := range []string{one, one + one, one + "b", "a" + one, "a" + one + "b", " " + one + " ", "-a" + one + "b-", one + "-b-" + one} {
			words, inner := wordsOf(s)
			split(t, s, words, inner)
		}
	}
}

func TestP3_1_EveryTextOfPieces(t *testing.T) {
	for s := range made(4) {
		words, inner := wordsOf(s)
		split(t, s, words, inner)
	}
}

func TestP3_1_LongTexts(t *testing.T) {
	for _, size := range []int{api.MaxLine, api.MaxQuery, api.MaxScript, 1 << 17} {
		one := strings.Repeat("x", size)
		split(t, one, []string{one}, nil)
		split(t, " "+one+" ", []string{one}, []string{one})
		split(t, strings.Repeat(" ", size), nil, nil)
		split(t, strings.Repeat("\xff", size), nil, nil)
		split(t, one+"\xff"+one, []string{one, one}, nil)
		n := 0
		for w := range word.Words(strings.Repeat("é ", size)) {
			if w != "é" {
				t.Fatalf("word %d is %q", n, w)
			}
			n++
		}
		if n != size {
			t.Errorf("%d words, not %d", n, size)
		}
	}
}

func TestP3_1_Has(t *testing.T) {
	for _, c := range []struct {
		text, word string
		has        bool
	}{
		{"get /a 200", "get", true},
		{"get /a 200", "a", true},
		{"get /a 200", "200", true},
		{"get /a 2001", "200", false},
		{"get /a 1200", "200", false},
		{"get /a 1200 200", "200", true},
		{"200 200", "200", true},
		{"GET get", "get", true},
		{"getting", "get", false},
		{"GET", "get", false},
		{"get", "getting", false},
		{"get", "get", true},
		{"get_", "get", false},
		{"é", "\xc3", false},
		{"éa", "a", false},
		{"a b", "a b", false},
		{"a b", " ", false},
		{"a b", "a ", false},
		{" a b", " a", false},
		{"-", "-", false},
		{"", "", false},
		{"a", "", false},
		{" ", "", false},
		{"", "a", false},
		{"a\xffb", "a", true},
		{"a\xffb", "b", true},
		{"a\xffb", "a\xff", false},
		{"a\xffb", "a\xffb", false},
		{"a\xffb", "\xff", false},
		{"a\xffb", "\ufffd", false},
		{"\ufffd", "\ufffd", false},
		{"\ufffd", "\xff", false},
		{"\xff", "\xff", false},
		{"\xffab", "ab", true},
		{"ab\xe4\xb8", "ab", true},
	} {
		if got := word.Has(c.text, c.word); got != c.has {
			t.Errorf("Has(%q, %q) is %v", c.text, c.word, got)
		}
	}
}

// Of all that stands in a text, from a byte to a byte, just its words are some.
func TestP3_1_HasNoOtherPart(t *testing.T) {
	for s := range made(3) {
		words, _ := wordsOf(s)
		for from := range len(s) + 1 {
			for to := from; to <= len(s); to++ {
				part := s[from:to]
				if got := word.Has(s, part); got != slices.Contains(words, part) {
					t.Errorf("Has(%q, %q) is %v", s, part, got)
				}
			}
		}
	}
}

func TestP3_1_Is(t *testing.T) {
	for _, s := range []string{"a", "Z", "0", "_", "ab9_", "é", "世界", "a\u0080", "\ufffc", "\U0010ffff"} {
		if !word.Is(s) {
			t.Errorf("Is of %q is false", s)
		}
	}
	for _, s := range []string{"", " ", " a", "a ", "a b", "a-b", "-", "\xff", "\xffa", "a\xff", "a\xe4\xb8b", "\ufffd", "a\ufffd", "a\x00", "\n"} {
		if word.Is(s) {
			t.Errorf("Is of %q is true", s)
		}
	}
}

// walks are both ways to go over words.
func walks() map[string]func(string) iter.Seq[string] {
	return map[string]func(string) iter.Seq[string]{"Words": word.Words, "Inner": word.Inner}
}

// leave answers the first words of a walk, which is left at the last of them; what is asked behind that is an error.
func leave(t *testing.T, name string, walk iter.Seq[string], most int) []string {
	t.Helper()
	var out []string
	walk(func(w string) bool {
		if len(out) == most {
			t.Errorf("%s tells %q, though it was left", name, w)
			return false
		}
		out = append(out, w)
		return len(out) < most
	})
	return out
}

func TestP3_1_WalksLeftEarly(t *testing.T) {
	for name, walk := range walks() {
		for _, s := range []string{"a", " a ", "a b", "a b ", " a b", " a b c ", "a b c", "a\xffb\xffc\xff", "ab-cd 7", "a a a a"} {
			seq := walk(s)
			all := slices.Collect(seq)
			for most := 1; most <= len(all); most++ {
				if got := leave(t, name, seq, most); !slices.Equal(got, all[:most]) {
					t.Errorf("%s of %q, left behind %d: %q", name, s, most, got)
				}
			}
			if got := slices.Collect(seq); !slices.Equal(got, all) {
				t.Errorf("%s of %q, behind those that were left: %q, not %q", name, s, got, all)
			}
		}
	}
}

// A walk within another over the same words knows nothing of it, nor do those of other texts.
func TestP3_1_WalksWithinOneAnother(t *testing.T) {
	for name, walk := range walks() {
		seq, other := walk(" a b c "), walk("-x-y-")
		var got []string
		for one := range seq {
			for two := range seq {
				got = append(got, one+two)
			}
			for two := range other {
				got = append(got, one+two)
				break
			}
		}
		if want := strings.Fields("aa ab ac ax ba bb bc bx ca cb cc cx"); !slices.Equal(got, want) {
			t.Errorf("%s: %q", name, got)
		}
	}
}

// inAll asks whether the inner words of a text are words of those with it between some bytes.
func inAll(t *testing.T, s string, around []string) {
	t.Helper()
	inner := slices.Collect(word.Inner(s))
	if len(inner) == 0 {
		return
	}
	for _, ahead := range around {
		for _, behind := range around {
			text := ahead + s + behind
			words := slices.Collect(word.Words(text))
			for _, w := range inner {
				if !slices.Contains(words, w) || !word.Has(text, w) {
					t.Errorf("%q is an inner word of %q, and no word of %q", w, s, text)
				}
			}
		}
	}
}

func TestP3_2_InnerWordsOfPieces(t *testing.T) {
	around := []string{"", "a", "_7", "é", "-", " ", "a ", " a", "\ufffd", "\xff", "\x80", "\xc3", "\xa9", "\xe4\xb8", "\xf0\x9f\x90", "\xb8\x96", "a\xc3", "\xa9a"}
	for s := range made(5) {
		if utf8.ValidString(s) {
			inAll(t, s, around)
		}
	}
}

func TestP3_2_InnerWordsOfLines(t *testing.T) {
	around := []string{""}
	for c := range 256 {
		around = append(around, string([]byte{byte(c)}))
	}
	for _, c := range lines {
		if !utf8.ValidString(c.text) {
			t.Errorf("%q isn't UTF-8", c.text)
		}
		inAll(t, c.text, around)
	}
}

// Those at a text's ends needn't be words of a longer one, so they aren't inner ones; and those of "x-y" are none at all.
func TestP3_2_WordsAtTheEndsMayGoOn(t *testing.T) {
	for _, c := range []struct {
		text, longer, word string
	}{
		{"get ", "forget it", "get"},
		{" get", "we getting", "get"},
		{"get", "getting", "get"},
		{"x-y", "ax-y", "x"},
		{"x-y", "x-yb", "y"},
	} {
		if !strings.Contains(c.longer, c.text) || !word.Has(c.text, c.word) || word.Has(c.longer, c.word) {
			t.Errorf("%q, %q, %q", c.text, c.longer, c.word)
		}
		if slices.Contains(slices.Collect(word.Inner(c.text)), c.word) {
			t.Errorf("%q is an inner word of %q", c.word, c.text)
		}
	}
}
