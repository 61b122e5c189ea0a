package lex_test

import (
	"math"
	"math/big"
	"regexp"
	"slices"
	"strconv"
	"strings"
	"testing"
	"unicode/utf8"

	"magpie/api"
	"magpie/lex"
)

// words are the language's words.
var words = []string{
	"from", "to", "where", "find", "desc", "limit", "page",
	"and", "or", "not", "word", "has", "field", "true", "false",
}

func xs(n int) string { return strings.Repeat("x", n) }

func blanks(n int) string { return strings.Repeat(" ", n) }

// is answers a token; one that is no number has none.
func is(kind lex.Kind, says string, at int) lex.Token {
	t := lex.Token{Kind: kind, Says: says, At: at}
	if kind == lex.Number {
		t.N, _ = strconv.Atoi(says)
	}
	return t
}

func none(at int) api.Fault { return api.Fault{Err: api.ErrLex, At: at} }

// short is a text as a message tells it.
func short(s string) string {
	if len(s) > 60 {
		return strconv.Quote(s[:30]) + ".." + strconv.Quote(s[len(s)-20:])
	}
	return strconv.Quote(s)
}

// tells asks whether Lex answers these tokens, and behind them the end.
func tells(t *testing.T, s string, want ...lex.Token) {
	t.Helper()
	want = append(slices.Clone(want), lex.Token{At: len(s) + 1})
	got, fault := lex.Lex(s)
	if fault != (api.Fault{}) {
		t.Errorf("%s: %v", short(s), fault)
	} else if !slices.Equal(got, want) {
		t.Errorf("%s: %v, not %v", short(s), got, want)
	}
}

// fails asks whether Lex answers this fault, and no token.
func fails(t *testing.T, s string, want api.Fault) {
	t.Helper()
	got, fault := lex.Lex(s)
	if fault != want {
		t.Errorf("%s: %v, not %v", short(s), fault, want)
	}
	if len(got) != 0 {
		t.Errorf("%s: tokens beside a fault: %v", short(s), got)
	}
}

// variants are all that a text becomes by a letter more, a letter less, or a letter that is great.
func variants(s string) []string {
	var out []string
	for i := range len(s) + 1 {
		for c := 'a'; c <= 'z'; c++ {
			out = append(out, s[:i]+string(c)+s[i:])
		}
		out = append(out, s[:i]+"_"+s[i:])
	}
	for i := range len(s) {
		out = append(out, s[:i]+s[i+1:], s[:i]+strings.ToUpper(s[i:i+1])+s[i+1:])
	}
	return append(out, strings.ToUpper(s), s+s)
}

func TestP5_1_Kinds(t *testing.T) {
	for i, k := range []lex.Kind{lex.End, lex.Name, lex.Word, lex.Number, lex.Text, lex.Sign} {
		if int(k) != i {
			t.Errorf("kind %d is %d", i, k)
		}
	}
}

func TestP5_1_IsWord(t *testing.T) {
	for _, w := range words {
		if !lex.IsWord(w) {
			t.Errorf("%q is no word", w)
		}
		for _, s := range variants(w) {
			if lex.IsWord(s) {
				t.Errorf("%q is a word", s)
			}
		}
		for _, s := range []string{" " + w, w + " ", w + "\n", w + "\x00", w + "0", "\"" + w + "\"", "-" + w, w + "=", "(" + w, w + " " + w, w + "é", w + "\xff"} {
			if lex.IsWord(s) {
				t.Errorf("%q is a word", s)
			}
		}
		for _, v := range words {
			if s := w + " " + v; lex.IsWord(s) || lex.IsWord(w+v) {
				t.Errorf("%q is a word", s)
			}
		}
	}
	for _, s := range []string{"", " ", "a", "0", "-1", "=", "!=", "(", ")", "group", "by", "asc", "in", "sort", "order", "xor", "nil", "app", "\xff", "\ufffd", xs(2000)} {
		if lex.IsWord(s) {
			t.Errorf("%q is a word", s)
		}
	}
}

// Each word is a Word as it stands, and a Name with anything otherwise.
func TestP5_1_LexWords(t *testing.T) {
	for _, w := range words {
		tells(t, w, is(lex.Word, w, 1))
		tells(t, "  "+w+" ", is(lex.Word, w, 3))
		for _, s := range variants(w) {
			tells(t, s, is(lex.Name, s, 1))
		}
		for _, s := range []string{w + "0", "_" + w, w + "_", w + "9a"} {
			tells(t, s, is(lex.Name, s, 1))
		}
		fails(t, "-"+w, none(1))
		fails(t, "0"+w, none(1))
		tells(t, "a "+w+"=\""+w+"\"", is(lex.Name, "a", 1), is(lex.Word, w, 3), is(lex.Sign, "=", 3+len(w)), is(lex.Text, w, 4+len(w)))
	}
}

func TestP5_1_IsText(t *testing.T) {
	for _, s := range []string{
		"", "a", " ", "\"", "\\", "\\n", "\"\\", "\x00", "\t\r\x0b\x7f", "é", "世", "\U0001f426", "\u0085\u2028\u010a\u0a0a",
		"\ufffd", "a\ufffdb", "\ufffc\ufffe\uffff", "\u0080", "\u07ff\u0800\ud7ff\ue000\uffff\U00010000\U0010ffff", xs(1024), xs(1025), xs(1 << 17),
	} {
		if !lex.IsText(s) {
			t.Errorf("%s is no text", short(s))
		}
	}
	for _, s := range noTexts() {
		if lex.IsText(s) {
			t.Errorf("%s is a text", short(s))
		}
	}
}

// broken are bytes that are no UTF-8, from the first one on, whether they break off, are too long, or say what is no rune.
var broken = []string{
	"\x80", "\xbf", "\xc0", "\xc1", "\xc2", "\xe4", "\xe4\xb8", "\xf0", "\xf0\x9f", "\xf0\x9f\x90", "\xf5", "\xf8", "\xfe", "\xff",
	"\xc0\x80", "\xc1\xbf", "\xe0\x80\x80", "\xe0\x9f\xbf", "\xf0\x80\x80\x80", "\xf0\x8f\xbf\xbf",
	"\xed\xa0\x80", "\xed\xbf\xbf", "\xf4\x90\x80\x80", "\xf7\xbf\xbf\xbf",
	"\xef\xbf", "\xef\xbf\xff",
}

// noTexts are texts that no Text can say.
func noTexts() []string {
	out := []string{
		"\n", "\n\n", "a\n", "\na", "a\nb", "é\n", "\r\n", "\"\n\"", "\\\n", "\ufffd\n", "\n\xff", "\xff\n",
		xs(2000) + "\n", "\n" + xs(2000), xs(2000) + "\xff",
	}
	for _, s := range broken {
		out = append(out, s, s+"a", "a"+s, "a"+s+"b", "é"+s, s+"\"", "\\"+s, "\ufffd"+s, s+"\ufffd")
	}
	return out
}

func TestP5_1_Quote(t *testing.T) {
	for _, c := range []struct{ s, want string }{
		{"", `""`},
		{"a", `"a"`},
		{" a  b ", `" a  b "`},
		{"from", `"from"`},
		{"-5", `"-5"`},
		{`"`, `"\""`},
		{`\`, `"\\"`},
		{`""`, `"\"\""`},
		{`\\`, `"\\\\"`},
		{`\"`, `"\\\""`},
		{`"\`, `"\"\\"`},
		{`a"b`, `"a\"b"`},
		{`a\b`, `"a\\b"`},
		{`\n`, `"\\n"`},
		{`a"\é`, `"a\"\\é"`},
		{`"a"`, `"\"a\""`},
		{"'`", "\"'`\""},
		{"\t\r\x00\x0b\x7f", "\"\t\r\x00\x0b\x7f\""},
		{"é世\U0001f426", "\"é世\U0001f426\""},
		{"\ufffd", "\"\ufffd\""},
		{"\u0085\u2028\ufeff", "\"\u0085\u2028\ufeff\""},
		{xs(2000), "\"" + xs(2000) + "\""},
		{strings.Repeat(`"`, 2000), `"` + strings.Repeat(`\"`, 2000) + `"`},
	} {
		if got := lex.Quote(c.s); got != c.want {
			t.Errorf("Quote(%s) is %s, not %s", short(c.s), short(got), short(c.want))
		}
	}
	for _, s := range noTexts() {
		if got := lex.Quote(s); got != "" {
			t.Errorf("Quote(%s) is %s", short(s), short(got))
		}
	}
}

// Each kind of token, and a query that has them all.
func TestP5_1_Lex(t *testing.T) {
	tells(t, "app", is(lex.Name, "app", 1))
	tells(t, "from", is(lex.Word, "from", 1))
	tells(t, "17", is(lex.Number, "17", 1))
	tells(t, `"a b"`, is(lex.Text, "a b", 1))
	tells(t, "!=", is(lex.Sign, "!=", 1))
	tells(t, `has "a\"b"`, is(lex.Word, "has", 1), is(lex.Text, `a"b`, 5))
	tells(t, `from -5 to 9 where app!="é\\" find not (word "a" or field _x="") desc limit 5 page "p"`,
		is(lex.Word, "from", 1), is(lex.Number, "-5", 6), is(lex.Word, "to", 9), is(lex.Number, "9", 12),
		is(lex.Word, "where", 14), is(lex.Name, "app", 20), is(lex.Sign, "!=", 23), is(lex.Text, `é\`, 25),
		is(lex.Word, "find", 32), is(lex.Word, "not", 37), is(lex.Sign, "(", 41), is(lex.Word, "word", 42), is(lex.Text, "a", 47),
		is(lex.Word, "or", 51), is(lex.Word, "field", 54), is(lex.Name, "_x", 60), is(lex.Sign, "=", 62), is(lex.Text, "", 63), is(lex.Sign, ")", 65),
		is(lex.Word, "desc", 67), is(lex.Word, "limit", 72), is(lex.Number, "5", 78), is(lex.Word, "page", 80), is(lex.Text, "p", 85))
}

// Tokens are as they stand, whether they make a query or not.
func TestP5_1_LexNoQuery(t *testing.T) {
	tells(t, "limit limit from 1 1 ) (", is(lex.Word, "limit", 1), is(lex.Word, "limit", 7), is(lex.Word, "from", 13),
		is(lex.Number, "1", 18), is(lex.Number, "1", 20), is(lex.Sign, ")", 22), is(lex.Sign, "(", 24))
	tells(t, `or "" "" =`, is(lex.Word, "or", 1), is(lex.Text, "", 4), is(lex.Text, "", 7), is(lex.Sign, "=", 10))
	var many []lex.Token
	for i := range 512 {
		many = append(many, is(lex.Name, "a", 2*i+1))
	}
	tells(t, strings.Repeat("a ", 512), many...)
	many = nil
	for i := range 1024 {
		many = append(many, is(lex.Sign, "(", i+1))
	}
	tells(t, strings.Repeat("(", 1024), many...)
}

func TestP5_1_LexEmptyAndBlanks(t *testing.T) {
	for n := range 1025 {
		tells(t, blanks(n))
	}
	for _, n := range []int{0, 1, 2, 9, 300} {
		b := blanks(n)
		tells(t, b+"a", is(lex.Name, "a", n+1))
		tells(t, "a"+b, is(lex.Name, "a", 1))
		tells(t, b+"\"a\""+b+"="+b, is(lex.Text, "a", n+1), is(lex.Sign, "=", 2*n+4))
	}
	tells(t, "a  to   -1 =", is(lex.Name, "a", 1), is(lex.Word, "to", 4), is(lex.Number, "-1", 9), is(lex.Sign, "=", 12))
	tells(t, `a"b"a`, is(lex.Name, "a", 1), is(lex.Text, "b", 2), is(lex.Name, "a", 5))
	tells(t, `"a""b"`, is(lex.Text, "a", 1), is(lex.Text, "b", 4))
	tells(t, `5"b"-5`, is(lex.Number, "5", 1), is(lex.Text, "b", 2), is(lex.Number, "-5", 5))
	tells(t, "from to1to", is(lex.Word, "from", 1), is(lex.Name, "to1to", 6))
}

func TestP5_1_LexTooLong(t *testing.T) {
	long := api.Fault{Err: api.ErrLimit, At: 1}
	tells(t, blanks(1004)+xs(20), is(lex.Name, xs(20), 1005))
	tells(t, `"`+xs(1022)+`"`, is(lex.Text, xs(1022), 1))
	tells(t, `"`+strings.Repeat("é", 511)+`"`, is(lex.Text, strings.Repeat("é", 511), 1))
	tells(t, `"`+strings.Repeat(`\"`, 511)+`"`, is(lex.Text, strings.Repeat(`"`, 511), 1))
	fails(t, xs(1024), none(1))
	for _, s := range []string{
		blanks(1025), blanks(1005) + xs(20), `"` + xs(1023) + `"`, `"` + strings.Repeat("é", 511) + `x"`,
		xs(1025), strings.Repeat("=", 1025), strings.Repeat("a ", 513), "!" + xs(1024), blanks(4096), xs(1 << 17),
		"\xff" + xs(1024), xs(1024) + "\xff", xs(500) + "\xff" + xs(524), `"` + xs(1024) + "\xff", strings.Repeat("\xff", 1025), strings.Repeat("\n", 1025),
	} {
		fails(t, s, long)
	}
	// Bytes count, not runes.
	fails(t, `"`+strings.Repeat("世", 341)+`"`, long)
	tells(t, `"`+strings.Repeat("世", 340)+`"`, is(lex.Text, strings.Repeat("世", 340), 1))
}

// Where a query isn't UTF-8 that is told, whatever else is wrong, ahead of it or behind.
func TestP5_1_LexNoUTF8(t *testing.T) {
	for _, bad := range broken {
		for _, ahead := range []string{"", "a", "a ", "  ", `"a`, `"a" `, `"\`, "é", `"é`, "世 ", "=", "!", "! ", "007 ", "-", "a\n", "\ufffd", "\"\ufffd", "\xf0\x9f\x90\xa6", xs(900)} {
			for _, behind := range []string{"", "a", " ", `"`, `" a`, "\n", "\xff", "\ufffd", "\xf5", " = b \xff"} {
				fails(t, ahead+bad+behind, none(len(ahead)+1))
			}
		}
		fails(t, blanks(1024-len(bad))+bad, none(1025-len(bad)))
		fails(t, bad+blanks(1024-len(bad)), none(1))
		fails(t, `"`+xs(1023-len(bad))+bad, none(1025-len(bad)))
	}
	// What is no UTF-8 counts as U+FFFD; that rune, written as such, is none of these.
	tells(t, "\"\ufffd\"", is(lex.Text, "\ufffd", 1))
	tells(t, "\"a\ufffd\ufffdb\" a", is(lex.Text, "a\ufffd\ufffdb", 1), is(lex.Name, "a", 12))
	fails(t, "\ufffd", none(1))
	fails(t, "a \ufffd", none(3))
}

func TestP5_1_LexNames(t *testing.T) {
	for _, s := range []string{
		"a", "z", "A", "Z", "_", "__", "_0", "a0", "a9z", "Z_9", "x", "o", "an", "ands", "From", "FROM", "iF", "e5", "nan", "x0f",
		xs(19), xs(20), "_" + xs(19), "A" + strings.Repeat("0", 19), "from" + xs(16), strings.Repeat("_", 20),
	} {
		tells(t, s, is(lex.Name, s, 1))
		tells(t, "("+s+")", is(lex.Sign, "(", 1), is(lex.Name, s, 2), is(lex.Sign, ")", len(s)+2))
		tells(t, s+`="`+s+`"`+s, is(lex.Name, s, 1), is(lex.Sign, "=", len(s)+1), is(lex.Text, s, len(s)+2), is(lex.Name, s, 2*len(s)+4))
	}
	for _, s := range []string{
		xs(21), "_" + xs(20), "from" + xs(17), "a" + strings.Repeat("0", 20), strings.Repeat("_", 21), xs(22), xs(40), xs(41), xs(1000),
		"0a", "9_", "0_", "1x", "1from", "0x0f", "1e5", "1_000", "12345678901234567890a", "9" + xs(19),
		"-a", "-_", "-_1", "-from", "-1a", "-1_", "-e5", "-a1",
	} {
		fails(t, s, none(1))
		fails(t, "("+s+")", none(2))
		fails(t, "a "+s+" b", none(3))
		fails(t, "a="+s, none(3))
		fails(t, `"a" `+s+` ! 007`, none(5))
	}
	// A stroke within letters is the first one of the next row.
	fails(t, "a-b", none(2))
	fails(t, "ab-", none(3))
	fails(t, "from-a", none(5))
	tells(t, "a-5", is(lex.Name, "a", 1), is(lex.Number, "-5", 2))
	tells(t, "_-5_"[:3], is(lex.Name, "_", 1), is(lex.Number, "-5", 2))
	fails(t, "_-5_", none(2))
}

func TestP5_1_LexNumbers(t *testing.T) {
	for _, c := range []struct {
		s string
		n int
	}{
		{"0", 0}, {"1", 1}, {"9", 9}, {"10", 10}, {"90", 90}, {"100", 100}, {"1234567890", 1234567890}, {"-1", -1}, {"-9", -9}, {"-10", -10}, {"-1234567890", -1234567890},
		{"2147483647", 1<<31 - 1}, {"2147483648", 1 << 31}, {"-2147483649", -1<<31 - 1}, {"4294967296", 1 << 32},
		{"1099511627776", 1 << 40}, {"1099511627777", 1<<40 + 1}, {"-1099511627776", -1 << 40}, {"9007199254740993", 1<<53 + 1},
		{"1000000000000000000", 1e18}, {"-1000000000000000000", -1e18},
		{"9223372036854775806", math.MaxInt - 1}, {"9223372036854775807", math.MaxInt}, {"-9223372036854775807", math.MinInt + 1}, {"-9223372036854775808", math.MinInt},
	} {
		tells(t, c.s, lex.Token{Kind: lex.Number, Says: c.s, N: c.n, At: 1})
		tells(t, " "+c.s+"\"\"", lex.Token{Kind: lex.Number, Says: c.s, N: c.n, At: 2}, is(lex.Text, "", 2+len(c.s)))
	}
	for _, s := range []string{
		"9223372036854775808", "9223372036854775809", "-9223372036854775809", "-9223372036854775810", "10000000000000000000", "-10000000000000000000",
		"18446744073709551615", "18446744073709551616", "18446744073709551617", "-18446744073709551615", "92233720368547758070", strings.Repeat("9", 400), "-" + strings.Repeat("9", 400),
		"00", "01", "09", "007", "000", "010", "0123", "-00", "-01", "-007", "00000000000000000001", "-0", "-", "-00000000000000000001", strings.Repeat("0", 400),
	} {
		fails(t, s, none(1))
		fails(t, " "+s+" ", none(2))
		fails(t, "a="+s+"(", none(3))
		fails(t, "1 "+s+" 01", none(3))
	}
	// What else is said to be a number elsewhere.
	for s, at := range map[string]int{
		"+1": 1, "1.5": 2, "1,000": 2, ".5": 1, "0x10": 1, "0b1": 1, "0o7": 1, "1e3": 1, "1_0": 1, "١": 1, "1١": 2, "½": 1, "\u22121": 1, "2²": 2, "1'0": 2, "１": 1,
	} {
		fails(t, s, none(at))
	}
}

// A stroke begins a row, wherever it stands, and stands alone without a digit behind it.
func TestP5_1_LexStrokes(t *testing.T) {
	tells(t, "1-2", is(lex.Number, "1", 1), is(lex.Number, "-2", 2))
	tells(t, "-1-2-3", is(lex.Number, "-1", 1), is(lex.Number, "-2", 3), is(lex.Number, "-3", 5))
	tells(t, "to-2", is(lex.Word, "to", 1), is(lex.Number, "-2", 3))
	tells(t, "=-2)", is(lex.Sign, "=", 1), is(lex.Number, "-2", 2), is(lex.Sign, ")", 4))
	tells(t, `"-"-2`, is(lex.Text, "-", 1), is(lex.Number, "-2", 4))
	for s, at := range map[string]int{
		"--": 1, "--1": 1, "- 1": 1, "-1-": 3, "-1--2": 3, "1-": 2, "1 -": 3, "1-02": 2, "1-0": 2, "-(": 1, "-=": 1, `-"1"`: 1, "-é": 1, "-\n": 1, "5 -": 3, "0-0": 2, "1-a": 2,
	} {
		fails(t, s, none(at))
	}
}

func TestP5_1_LexTexts(t *testing.T) {
	for _, c := range []struct{ s, says string }{
		{`""`, ""},
		{`" "`, " "},
		{`"a"`, "a"},
		{`" a  b "`, " a  b "},
		{`"from"`, "from"},
		{`"-5"`, "-5"},
		{`"!=()"`, "!=()"},
		{`"é"`, "é"},
		{`"世"`, "世"},
		{"\"\U0001f426\"", "\U0001f426"},
		{"\"aé世\U0001f426a\"", "aé世\U0001f426a"},
		{"\"\u0080\u07ff\u0800\uffff\U00010000\U0010ffff\"", "\u0080\u07ff\u0800\uffff\U00010000\U0010ffff"},
		{"\"\u0085\u2028\u010a\"", "\u0085\u2028\u010a"},
		{"\"\x00\t\r\x0b\x7f\"", "\x00\t\r\x0b\x7f"},
		{`"\""`, `"`},
		{`"\\"`, `\`},
		{`"\"\""`, `""`},
		{`"\\\\"`, `\\`},
		{`"\\\""`, `\"`},
		{`"\"\\"`, `"\`},
		{`"a\"b\\c"`, `a"b\c`},
		{`"\\n"`, `\n`},
		{`"é\"世\\"`, `é"世\`},
		{`"'"`, "'"},
	} {
		tells(t, c.s, is(lex.Text, c.says, 1))
		tells(t, " "+c.s+"a", is(lex.Text, c.says, 2), is(lex.Name, "a", 2+len(c.s)))
		tells(t, c.s+c.s+c.s, is(lex.Text, c.says, 1), is(lex.Text, c.says, 1+len(c.s)), is(lex.Text, c.says, 1+2*len(c.s)))
	}
}

func TestP5_1_LexNoTexts(t *testing.T) {
	for _, s := range []string{
		`"`, `"a`, `"é`, `" `, `"a b = c`, `"\"`, `"\`, `"a\`, `"a\"`, `"a\"b`, `"\\\"`, `"\\`, `"a\\\`,
		`"\a"`, `"\n"`, `"\ "`, `"\'"`, `"\/"`, `"\0"`, `"\x22"`, `"\u0022"`, `"\é"`, `"\世"`, "\"\\\ufffd\"", "\"\\\n\"", "\"\\\t\"", "\"\\\x00\"",
		`"\\\a"`, `"\"\a"`, `"ab\cd"`, `"a\`, `"\a\""`,
		"\"\n\"", "\"a\n\"", "\"\na\"", "\"a\nb\"", "\"a\n", "\"é\n\"", "\"a\\\"\n\"", "\"a\r\n\"", "\"\n\n\"",
	} {
		fails(t, s, none(1))
		fails(t, "  "+s, none(3))
		fails(t, `a="é"`+s, none(7))
	}
	// What stands behind is no part of it, and isn't looked at.
	fails(t, `"a" "`, none(5))
	fails(t, `"a""`, none(4))
	fails(t, `"a\" = "b"`, none(10))
	fails(t, `"\x" ! 007`, none(1))
	fails(t, "'a'", none(1))
	fails(t, "`a`", none(1))
	fails(t, `\"a\"`, none(1))
	fails(t, "“a”", none(1))
}

func TestP5_1_LexSigns(t *testing.T) {
	tells(t, "!==()=!=", is(lex.Sign, "!=", 1), is(lex.Sign, "=", 3), is(lex.Sign, "(", 4), is(lex.Sign, ")", 5), is(lex.Sign, "=", 6), is(lex.Sign, "!=", 7))
	tells(t, "==", is(lex.Sign, "=", 1), is(lex.Sign, "=", 2))
	tells(t, "!=!=", is(lex.Sign, "!=", 1), is(lex.Sign, "!=", 3))
	tells(t, ")(", is(lex.Sign, ")", 1), is(lex.Sign, "(", 2))
	for _, s := range []string{"!=", "=", "(", ")"} {
		n := len(s)
		tells(t, s, is(lex.Sign, s, 1))
		tells(t, "  "+s+"  ", is(lex.Sign, s, 3))
		tells(t, s+s, is(lex.Sign, s, 1), is(lex.Sign, s, n+1))
		tells(t, "ab"+s+"ab", is(lex.Name, "ab", 1), is(lex.Sign, s, 3), is(lex.Name, "ab", 3+n))
		tells(t, "or"+s+"or", is(lex.Word, "or", 1), is(lex.Sign, s, 3), is(lex.Word, "or", 3+n))
		tells(t, "10"+s+"-1", is(lex.Number, "10", 1), is(lex.Sign, s, 3), is(lex.Number, "-1", 3+n))
		tells(t, `""`+s+`""`, is(lex.Text, "", 1), is(lex.Sign, s, 3), is(lex.Text, "", 3+n))
		fails(t, s+"!", none(n+1))
		fails(t, "a"+s+"007", none(n+2))
	}
	for s, at := range map[string]int{
		"!": 1, "! ": 1, "! =": 1, "!a": 1, "!!=": 1, "a!": 2, "a !b": 3, `!"="`: 1, "!(": 1, "!=!": 3, "=!": 2, "a!\n=": 2, "!é": 1, "!-": 1,
		"<": 1, ">": 1, "a<=1": 2, "=~": 2, "!~": 1, "[": 1, "{a": 1, "a}": 2, "a|b": 2, "a,b": 2, "a.b": 2, "a:b": 2, "a;": 2, "a/b": 2, "a*": 2, "a+b": 2, "a&b": 2, "#a": 1, "$a": 1, "@": 1, "%": 1, "^": 1, "~": 1, "?": 1,
		"≠": 1, "a（": 2, "＝": 1,
	} {
		fails(t, s, none(at))
	}
}

// Each rune between two names: it is their letter, it parts them, or it is told where it stands.
func TestP5_1_LexEveryRune(t *testing.T) {
	for c := rune(0); c <= utf8.MaxRune; c++ {
		if !utf8.ValidRune(c) {
			continue
		}
		one := string(c)
		s := "a" + one + "b"
		switch {
		case c < utf8.RuneSelf && strings.Contains("abcdefghijklmnopqrstuvwxyzABCDEFGHIJKLMNOPQRSTUVWXYZ0123456789_", one):
			tells(t, s, is(lex.Name, s, 1))
		case one == " ":
			tells(t, s, is(lex.Name, "a", 1), is(lex.Name, "b", 3))
		case one == "=" || one == "(" || one == ")":
			tells(t, s, is(lex.Name, "a", 1), is(lex.Sign, one, 2), is(lex.Name, "b", 3))
		default:
			fails(t, s, none(2))
		}
	}
}

// Each rune between blanks, and at a query's beginning and end.
func TestP5_1_LexRuneAlone(t *testing.T) {
	for c := rune(0); c < 0x3100; c++ {
		one := string(c)
		switch {
		case c < utf8.RuneSelf && strings.Contains("abcdefghijklmnopqrstuvwxyzABCDEFGHIJKLMNOPQRSTUVWXYZ_", one):
			tells(t, one+" "+one, is(lex.Name, one, 1), is(lex.Name, one, 3))
		case '0' <= c && c <= '9':
			tells(t, one+" "+one, is(lex.Number, one, 1), is(lex.Number, one, 3))
		case one == " ":
			tells(t, one+" "+one)
		case one == "=" || one == "(" || one == ")":
			tells(t, one+" "+one, is(lex.Sign, one, 1), is(lex.Sign, one, 3))
		case one == `"`:
			tells(t, one+" "+one, is(lex.Text, " ", 1))
		default:
			fails(t, one, none(1))
			fails(t, one+" 1", none(1))
			fails(t, "1 "+one+" 1", none(3))
			fails(t, "\"é\" "+one, none(6))
		}
	}
}

// The first that is no token is told, whatever stands behind it.
func TestP5_1_LexFirstFault(t *testing.T) {
	bad := []string{"!", "-", "-0", "00", "1x", xs(21), `"\x"`, "\"\n", "\t", "\n", "é", "\ufffd", "9223372036854775808", ","}
	good := []string{"", "a", "from", "-7", "0", `"é"`, "!=", "(", ")", `a="b"`, "from 0 to 9"}
	for _, x := range bad {
		for _, g := range good {
			at := 1
			if g != "" {
				at = len(g) + 2
			}
			ahead := strings.TrimLeft(g+" ", " ")
			fails(t, ahead+x, none(at))
			for _, y := range bad {
				fails(t, ahead+x+" "+y, none(at))
				fails(t, ahead+x+" "+g+" "+y+" a", none(at))
			}
		}
	}
}

// What is answered is the caller's: it changes no later answer.
func TestP5_1_LexAnewEachTime(t *testing.T) {
	const s = `from 1 to "x" =`
	want, _ := lex.Lex(s)
	want = slices.Clone(want)
	one, _ := lex.Lex(s)
	two, _ := lex.Lex(s)
	for i := range one {
		one[i] = lex.Token{Kind: lex.Sign, Says: "none", N: 7, At: 7}
	}
	_ = append(one[:0], one[1:]...)
	three, _ := lex.Lex(s)
	if !slices.Equal(two, want) || !slices.Equal(three, want) {
		t.Errorf("%v, %v, not %v", two, three, want)
	}
}

// What the chapter says of letters, spelt as an expression, and not as the program does it.
var (
	piece  = regexp.MustCompile(`^(?:(!=|=|\(|\))|"((?:[^"\\\n]|\\["\\])*)"|(-?[0-9A-Za-z_]+))`)
	name   = regexp.MustCompile(`^[A-Za-z_][A-Za-z0-9_]{0,19}$`)
	digits = regexp.MustCompile(`^(0|-?[1-9][0-9]*)$`)
	behind = regexp.MustCompile(`\\(.)`)
)

// ofRow answers the token that a row is by those expressions; false: it is none.
func ofRow(s string, at int) (lex.Token, bool) {
	if slices.Contains(words, s) {
		return lex.Token{Kind: lex.Word, Says: s, At: at}, true
	}
	if name.MatchString(s) {
		return lex.Token{Kind: lex.Name, Says: s, At: at}, true
	}
	if n, ok := new(big.Int).SetString(s, 10); ok && digits.MatchString(s) && n.IsInt64() {
		return lex.Token{Kind: lex.Number, Says: s, N: int(n.Int64()), At: at}, true
	}
	return lex.Token{}, false
}

// byWords answers what Lex must, by those expressions.
func byWords(s string) ([]lex.Token, api.Fault) {
	if len(s) > 1024 {
		return nil, api.Fault{Err: api.ErrLimit, At: 1}
	}
	// Ahead of the first byte that is no UTF-8 stands the longest beginning that is.
	size := len(s)
	for !utf8.ValidString(s[:size]) {
		size--
	}
	if size < len(s) {
		return nil, none(size + 1)
	}
	var out []lex.Token
	at := 0
	for at < len(s) {
		if s[at] == ' ' {
			at++
			continue
		}
		m := piece.FindStringSubmatch(s[at:])
		if m == nil {
			return nil, none(at + 1)
		}
		switch {
		case m[1] != "":
			out = append(out, lex.Token{Kind: lex.Sign, Says: m[1], At: at + 1})
		case m[3] != "":
			one, ok := ofRow(m[3], at+1)
			if !ok {
				return nil, none(at + 1)
			}
			out = append(out, one)
		default:
			out = append(out, lex.Token{Kind: lex.Text, Says: behind.ReplaceAllString(m[2], "$1"), At: at + 1})
		}
		at += len(m[0])
	}
	return append(out, lex.Token{At: len(s) + 1}), api.Fault{}
}

// texts calls with all texts of up to so many pieces.
func texts(most int, pieces []string, call func(string)) {
	var add func(s string, left int)
	add = func(s string, left int) {
		call(s)
		if left > 0 {
			for _, p := range pieces {
				add(s+p, left-1)
			}
		}
	}
	add("", most)
}

// All texts of a few pieces, held against the chapter's words.
func TestP5_1_LexAllTexts(t *testing.T) {
	check := func(s string) {
		want, fault := byWords(s)
		if fault != (api.Fault{}) {
			fails(t, s, fault)
			return
		}
		tells(t, s, want[:len(want)-1]...)
	}
	texts(4, []string{"a", "0", "1", "-", "_", "or", `"`, `\`, "!", "=", "(", ")", " ", "\n", "é", "\xff", "\xc3"}, check)
	texts(7, []string{`"`, `\`, "a", " ", "\n"}, check)
	texts(7, []string{"-", "0", "7", "a", " "}, check)
	texts(5, []string{"\xc3", "\xa9", "a", `"`, "\ufffd", "\xef", "\xbf\xbd"}, check)
}

// one asks whether letters are one Text alone, that says this.
func one(t *testing.T, s, says string) {
	t.Helper()
	tells(t, s, is(lex.Text, says, 1))
}

// Each rune alone, if it has two bytes at most, and all of them some in a row.
func TestP5_2_QuoteEveryRune(t *testing.T) {
	row := ""
	for c := rune(0); c <= utf8.MaxRune; c++ {
		if !utf8.ValidRune(c) || c == '\n' {
			continue
		}
		if c < 0x800 {
			one(t, lex.Quote(string(c)), string(c))
		}
		row += string(c)
		if len(row) > 200 || c == utf8.MaxRune {
			one(t, lex.Quote(row), row)
			row = ""
		}
	}
}

func TestP5_2_QuoteAllTexts(t *testing.T) {
	texts(6, []string{`"`, `\`, "a", " ", "é", "\ufffd", "n"}, func(s string) { one(t, lex.Quote(s), s) })
	texts(4, []string{`"`, `\`, "a", "\n", "\xff", "\xc3", "\xa9"}, func(s string) {
		q := lex.Quote(s)
		if lex.IsText(s) {
			one(t, q, s)
		} else if q != "" {
			t.Errorf("Quote(%q) is %q", s, q)
		}
	})
}

// As long as a query can be.
func TestP5_2_QuoteLengths(t *testing.T) {
	for n := range 1023 {
		s := strings.Repeat("x", n)
		one(t, lex.Quote(s), s)
	}
	for _, s := range []string{strings.Repeat("é", 511), strings.Repeat(`"`, 511), strings.Repeat(`\`, 511), strings.Repeat(`\"`, 255), strings.Repeat("\U0001f426", 255), strings.Repeat(`"é`, 255)} {
		one(t, lex.Quote(s), s)
	}
}

// Wherever it stands it is one Text, so that no two texts have the same letters, nor one the beginning of another's.
func TestP5_2_QuoteAmongOthers(t *testing.T) {
	list := []string{"", "a", " ", `"`, `\`, `""`, `\\`, `\"`, `"\`, `a"`, `a\`, `" "`, `"="`, "é", "é\\", "=", "!=", "from", "-5", "(", ")", "\t", "\ufffd"}
	for _, a := range list {
		qa := lex.Quote(a)
		tells(t, "a="+qa+")", is(lex.Name, "a", 1), is(lex.Sign, "=", 2), is(lex.Text, a, 3), is(lex.Sign, ")", 3+len(qa)))
		tells(t, "5"+qa+"or", is(lex.Number, "5", 1), is(lex.Text, a, 2), is(lex.Word, "or", 2+len(qa)))
		for _, b := range list {
			tells(t, qa+lex.Quote(b), is(lex.Text, a, 1), is(lex.Text, b, 1+len(qa)))
			if a != b && strings.HasPrefix(lex.Quote(b), qa) {
				t.Errorf("%q begins with %q", lex.Quote(b), qa)
			}
		}
	}
}
