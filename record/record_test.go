package record_test

import (
	"math"
	"slices"
	"strconv"
	"strings"
	"testing"

	"magpie/api"
	"magpie/record"
)

// entry answers an entry of names and values, one behind the other.
func entry(at int, line string, labels ...string) api.Entry {
	e := api.Entry{At: at, Line: line}
	for i := 0; i < len(labels); i += 2 {
		e.Labels = append(e.Labels, api.Label{Name: labels[i], Value: labels[i+1]})
	}
	return e
}

// same answers, field by field, whether two entries are the same.
func same(a, b api.Entry) bool {
	return a.At == b.At && a.Line == b.Line && slices.Equal(a.Labels, b.Labels)
}

func allSame(a, b []api.Entry) bool { return slices.EqualFunc(a, b, same) }

// copied answers entries that share no memory with those.
func copied(list []api.Entry) []api.Entry {
	var out []api.Entry
	for _, e := range list {
		e.Labels = slices.Clone(e.Labels)
		out = append(out, e)
	}
	return out
}

// text tells an entry.
func text(e api.Entry) string {
	s := strconv.Itoa(e.At)
	for _, l := range e.Labels {
		s += " " + l.Name + "=" + l.Value
	}
	return s + ": " + e.Line
}

func xs(n int) string { return strings.Repeat("x", n) }

// everyByte is all bytes but one, or all, if that is none.
func everyByte(but int) string {
	var b []byte
	for c := range 256 {
		if c != but {
			b = append(b, byte(c))
		}
	}
	return string(b)
}

// good are entries that can be, and bad ones that can't.
var good = []struct {
	why string
	e   api.Entry
}{
	{"nothing", api.Entry{}},
	{"no labels, but a list", api.Entry{Labels: []api.Label{}}},
	{"the least time", entry(-1<<40, "")},
	{"the one above it", entry(-1<<40+1, "")},
	{"the one below the greatest time", entry(1<<40-1, "")},
	{"the greatest time", entry(1<<40, "")},
	{"time -1", entry(-1, "a")},
	{"one label", entry(1, "a", "a", "b")},
	{"two labels", entry(1, "a", "a", "b", "b", "a")},
	{"three labels", entry(1, "a", "a", "", "b", "", "c", "")},
	{"4 labels", entry(1, "a", "a", "1", "b", "2", "c", "3", "d", "4")},
	{"labels that rise by kinds of letters", entry(1, "", "A", "", "Z", "", "_", "", "a", "")},
	{"a name that goes on as the one ahead", entry(1, "", "a", "", "a0", "", "aA", "", "a_", "")},
	{"values that don't rise", entry(1, "", "a", "z", "b", "y", "c", "z")},
	{"a name of 1 byte", entry(1, "", "z", "")},
	{"a name of 19 bytes", entry(1, "", xs(19), "")},
	{"a name of 20 bytes", entry(1, "", xs(20), "")},
	{"4 names of 20 bytes", entry(1, "", "a"+xs(19), "", "b"+xs(19), "", "c"+xs(19), "", "d"+xs(19), "")},
	{"two names that differ in the last of 20 bytes", entry(1, "", xs(19)+"x", "", xs(19)+"y", "")},
	{"a name that begins with _", entry(1, "", "_", "")},
	{"a name with digits", entry(1, "", "a0123456789", "")},
	{"a value of 19 bytes", entry(1, "", "a", xs(19))},
	{"a value of 20 bytes", entry(1, "", "a", xs(20))},
	{"a value of 20 bytes that are 10 runes", entry(1, "", "a", strings.Repeat("é", 10))},
	{"a value of 20 bytes that are no runes", entry(1, "", "a", strings.Repeat("\xff", 20))},
	{"a value of line feeds", entry(1, "", "a", strings.Repeat("\n", 20))},
	{"a value of bytes that are no letters", entry(1, "", "a", "\x00 =\"\n\x7f\x80\xff{}|")},
	{"a line of 199 bytes", entry(1, xs(199))},
	{"a line of 200 bytes", entry(1, xs(200))},
	{"a line of 200 bytes that are 100 runes", entry(1, strings.Repeat("é", 100))},
	{"a line of 200 bytes that are no runes", entry(1, strings.Repeat("\xff", 200))},
	{"a line of the bytes below 128, but a line feed", entry(1, everyByte(10)[:127])},
	{"a line of the bytes from 128 on", entry(1, everyByte(10)[127:])},
	{"a line with what is nearly a line feed", entry(1, "\t\x0b\r\x85\u2028\u010a\u0a0a\x8a")},
	{"all as great as can be", entry(1<<40, strings.Repeat("\xff", 200), "w"+xs(19), xs(20), "x"+xs(19), xs(20), "y"+xs(19), xs(20), "z"+xs(19), xs(20))},
}

var bad = []struct {
	why string
	e   api.Entry
}{
	{"a time below the least", entry(-1<<40-1, "")},
	{"a time above the greatest", entry(1<<40+1, "")},
	{"the least int", entry(math.MinInt, "")},
	{"the one above the least int", entry(math.MinInt+1, "")},
	{"the greatest int", entry(math.MaxInt, "")},
	{"5 labels", entry(1, "", "a", "", "b", "", "c", "", "d", "", "e", "")},
	{"200 labels", entry(1, "", slices.Repeat([]string{"a", ""}, 200)...)},
	{"an empty name", entry(1, "", "", "")},
	{"an empty name ahead of another", entry(1, "", "", "", "a", "")},
	{"a name of 21 bytes", entry(1, "", xs(21), "")},
	{"a name of 20 runes, 40 bytes", entry(1, "", strings.Repeat("é", 20), "")},
	{"a name of 300 bytes", entry(1, "", xs(300), "")},
	{"the last of 4 names of 21 bytes", entry(1, "", "a", "", "b", "", "c", "", xs(21), "")},
	{"a name that begins with a digit", entry(1, "", "0a", "")},
	{"a name that is a digit", entry(1, "", "9", "")},
	{"the second name begins with a digit", entry(1, "", "A", "", "9", "")},
	{"a name with a blank", entry(1, "", "a b", "")},
	{"a name with a line feed", entry(1, "", "a\n", "")},
	{"a name with a letter beyond z", entry(1, "", "aé", "")},
	{"a name of bytes that are no runes", entry(1, "", "a\xff", "")},
	{"the last name is none", entry(1, "", "a", "", "b", "", "c", "", "d-", "")},
	{"names that fall", entry(1, "", "b", "", "a", "")},
	{"the last two names fall", entry(1, "", "a", "", "b", "", "d", "", "c", "")},
	{"names that rise but for case", entry(1, "", "a", "", "B", "")},
	{"the longer name ahead of its beginning", entry(1, "", "ab", "", "a", "")},
	{"a name twice", entry(1, "", "a", "1", "a", "2")},
	{"a label twice", entry(1, "", "a", "1", "a", "1")},
	{"a name twice, another between", entry(1, "", "a", "", "b", "", "a", "")},
	{"the last name twice", entry(1, "", "a", "", "b", "", "c", "", "c", "")},
	{"a value of 21 bytes", entry(1, "", "a", xs(21))},
	{"a value of 11 runes, 22 bytes", entry(1, "", "a", strings.Repeat("é", 11))},
	{"the last value of 21 bytes", entry(1, "", "a", "", "b", "", "c", "", "d", xs(21))},
	{"a value of 300 bytes", entry(1, "", "a", xs(300))},
	{"a line of 201 bytes", entry(1, xs(201))},
	{"a line of 101 runes, 202 bytes", entry(1, strings.Repeat("é", 101))},
	{"a line of 20000 bytes", entry(1, xs(20000))},
	{"a line that is a line feed", entry(1, "\n")},
	{"a line feed at the beginning", entry(1, "\na")},
	{"a line feed within", entry(1, "a\nb")},
	{"a line feed at the end", entry(1, "a\n")},
	{"a line feed as the last of 200 bytes", entry(1, xs(199)+"\n")},
	{"a line feed behind what is no rune", entry(1, "\xe4\n")},
	{"a line of all bytes below 128", entry(1, everyByte(-1)[:128])},
	{"nothing of it can be", entry(math.MaxInt, "\n"+xs(200), "9", xs(21), "", "")},
}

// all are the entries of good and bad.
func all() []api.Entry {
	var out []api.Entry
	for _, c := range good {
		out = append(out, c.e)
	}
	for _, c := range bad {
		out = append(out, c.e)
	}
	return out
}

// pool are entries that differ in little: all of some times, labels and lines, among them such that can't be.
func pool() []api.Entry {
	rows := [][]string{
		nil, {"a", ""}, {"a", "", "b", ""}, {"a", "x"}, {"a", "x", "b", "y"}, {"a", "xa"}, {"aa", ""}, {"aa", "x"}, {"ax", ""}, {"b", ""}, {"b", "x", "a", ""},
		{"a", "", "a", ""}, {"", ""}, {"", "ax"}, {"A", ""}, {"é", ""}, {"a", "\xff"}, {"a", "\x00"}, {"a\x00", ""},
	}
	var out []api.Entry
	for _, at := range []int{math.MinInt, -1, 0, 1, math.MaxInt} {
		for _, row := range rows {
			for _, line := range []string{"", "a", "aa", "b", "\n", "\xff"} {
				out = append(out, entry(at, line, row...))
			}
		}
	}
	return out
}

func TestP4_1_NameEveryByte(t *testing.T) {
	for c := range 256 {
		letter := 'a' <= c && c <= 'z' || 'A' <= c && c <= 'Z' || c == '_'
		later := letter || '0' <= c && c <= '9'
		one := string([]byte{byte(c)})
		for _, s := range []string{one, one + "a", one + "9", one + xs(19)} {
			if got := record.Name(s); got != letter {
				t.Errorf("Name(%q) is %v", s, got)
			}
		}
		for _, s := range []string{"a" + one, "_" + one, "a" + one + "b", "A9" + one, xs(19) + one, xs(9) + one + xs(10)} {
			if got := record.Name(s); got != later {
				t.Errorf("Name(%q) is %v", s, got)
			}
		}
	}
}

// The letters at the ends of their ranges, and those beside them, spelt out.
func TestP4_1_NameLetters(t *testing.T) {
	for _, c := range "azAZ_" {
		if s := string(c); !record.Name(s) || !record.Name(s+s) {
			t.Errorf("%q is no name", s)
		}
	}
	for _, c := range "09" {
		if s := string(c); record.Name(s) || record.Name(s+"a") || !record.Name("a"+s) || !record.Name("_"+s) {
			t.Errorf("%q: a name may have it behind the first byte alone", s)
		}
	}
	for _, c := range "`{@[^/: -.=\"\n\x00\x7f\u0080\u00aaéжЖ世０\u0660\ufffc\ufffd\U00010400" {
		if s := string(c); record.Name(s) || record.Name("a"+s) || record.Name("a"+s+"b") {
			t.Errorf("%q is in a name", s)
		}
	}
}

func TestP4_1_NameLengths(t *testing.T) {
	for size := range 300 {
		for _, s := range []string{xs(size), strings.Repeat("_", size), strings.Repeat("Q", size)} {
			if got := record.Name(s); got != (1 <= size && size <= 20) {
				t.Errorf("a name of %d bytes: %v", size, got)
			}
		}
		if size > 0 {
			if s := "a" + strings.Repeat("7", size-1); record.Name(s) != (size <= 20) {
				t.Errorf("%q: %v", s, record.Name(s))
			}
		}
	}
	if record.Name(xs(1 << 20)) {
		t.Error("a name of 2^20 bytes")
	}
}

func TestP4_1_Time(t *testing.T) {
	for _, c := range []struct {
		n  int
		is bool
	}{
		{0, true}, {1, true}, {-1, true}, {1 << 39, true},
		{-1<<40 - 1, false}, {-1 << 40, true}, {-1<<40 + 1, true},
		{1<<40 - 1, true}, {1 << 40, true}, {1<<40 + 1, false},
		{1 << 41, false}, {-1 << 41, false}, {1 << 62, false}, {-1 << 62, false},
		{math.MaxInt, false}, {math.MinInt, false}, {math.MinInt + 1, false}, {math.MinInt + 1<<40, false},
	} {
		if got := record.Time(c.n); got != c.is {
			t.Errorf("Time(%d) is %v", c.n, got)
		}
	}
}

func TestP4_1_Good(t *testing.T) {
	for _, c := range good {
		if !record.Good(c.e) {
			t.Errorf("%s: it can't be", c.why)
		}
	}
	for _, c := range bad {
		if record.Good(c.e) {
			t.Errorf("%s: it can be", c.why)
		}
	}
}

// Each kind of name, time, value and line as a part of an entry that is as it may be otherwise.
func TestP4_1_GoodHangsOnItsParts(t *testing.T) {
	for c := range 256 {
		one := string([]byte{byte(c)})
		if got := record.Good(entry(0, "", one, "")); got != record.Name(one) {
			t.Errorf("the name %q: %v", one, got)
		}
		if got := record.Good(entry(0, "", "A", "", "a"+one, "")); got != record.Name("a"+one) {
			t.Errorf("the name %q: %v", "a"+one, got)
		}
		if !record.Good(entry(0, "", "a", one)) || !record.Good(entry(0, "", "a", xs(9)+one+xs(10))) {
			t.Errorf("the value %q can't be", one)
		}
		for _, line := range []string{one, one + "a", "a" + one, "a" + one + "b", xs(199) + one} {
			if got := record.Good(entry(0, line)); got != (c != 10) {
				t.Errorf("the line %q: %v", line, got)
			}
		}
	}
	for size := range 300 {
		if got := record.Good(entry(0, "", "a", xs(size))); got != (size <= 20) {
			t.Errorf("a value of %d bytes: %v", size, got)
		}
		if got := record.Good(entry(0, xs(size))); got != (size <= 200) {
			t.Errorf("a line of %d bytes: %v", size, got)
		}
	}
}

// Of two names just that way round can be in which they rise, whatever their values, and whatever stands ahead.
func TestP4_1_GoodNamesRise(t *testing.T) {
	names := []string{"B", "BB", "Z", "_", "_a", "a", "a0", "aA", "a_", "aa", "ab", "b", xs(19), xs(19) + "0", xs(20), "z"}
	for i, one := range names {
		for k, two := range names {
			for _, e := range []api.Entry{
				entry(0, "", one, "", two, ""),
				entry(0, "", one, "1", two, "2"),
				entry(0, "", one, "2", two, "1"),
				entry(0, "", "A", "", "AA", "", one, "", two, ""),
			} {
				if got := record.Good(e); got != (i < k) {
					t.Errorf("%.80q: %v", text(e), got)
				}
			}
		}
	}
}
