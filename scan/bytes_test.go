package scan_test

import (
	"math"
	"math/rand"
	"strconv"
	"strings"
	"testing"

	"magpie/api"
	"magpie/num"
	"magpie/record"
	"magpie/scan"
)

// bytesOf are an entry's bytes, as a text.
func bytesOf(e api.Entry) string { return string(record.Put(nil, e)) }

// within are all entries whose bytes stand in a text, wherever they begin.
func within(s string) []api.Entry {
	var out []api.Entry
	for from := range s {
		for to := from; to <= len(s); to++ {
			r := num.From(s[from:to])
			if e, ok := record.Get(r); ok && r.End() {
				out = append(out, e)
			}
		}
	}
	return record.Sort(false, out...)
}

// nested are entries in whose bytes, and where those of two meet, the bytes of others stand.
func nested() []api.Entry {
	a := entry(1, "a")
	return []api.Entry{
		{}, a, entry(1, ""), entry(0, "\x00"), entry(0, "\x00\x00"), entry(0, "\x00\x00\x00"), entry(0, strings.Repeat("\x00", 9)), entry(1, "\x00"), entry(-1, "\x00\x00"), entry(2, "\x01"),
		entry(1, bytesOf(a)), entry(2, bytesOf(a)), entry(1, bytesOf(a)+"b"), entry(1, "b"+bytesOf(a)), entry(1, "", "b", bytesOf(a)), entry(1, bytesOf(a), "b", bytesOf(a)), entry(1, bytesOf(a)[1:]), entry(1, bytesOf(a)[:3]),
		entry(1, "\x02\x00"), entry(1, "a", "a", ""), entry(0, "\x01\x01a\x00\x01a"), entry(1, "\x01a", "a", "\x02"), entry(64, "\x80\x01"), entry(-1, "\x01\x01a\x01b"), entry(-1, "\x01", "a", "\x01\x00\x00"),
	}
}

// Whatever bytes stand within those of entries that are there, or where two of them meet: an entry is there just if it was added.
func TestP15_1_WithinTheBytesOfOthers(t *testing.T) {
	for _, one := range nested() {
		for _, two := range nested() {
			for _, e := range within(bytesOf(one) + bytesOf(two)) {
				want := record.Sort(false, one, two, e)
				has(t, engine(one, two, e), want...)
				has(t, engine(one, e, two, e), want...)
				has(t, engine(e, two, one, one, e), want...)
			}
		}
	}
}

// A few of them spelt out.
func TestP15_1_WithinTheBytesOfOthersFew(t *testing.T) {
	a := entry(1, "a")
	for _, c := range []struct {
		why  string
		list []api.Entry
	}{
		{"in a line", []api.Entry{entry(9, "\x02\x00\x01a")}},
		{"in a line, between others", []api.Entry{entry(9, "xx\x02\x00\x01axx")}},
		{"in a value", []api.Entry{entry(9, "b", "app", "\x02\x00\x01a")}},
		{"a part of them in the line ahead, a part in the time behind", []api.Entry{entry(8, "\x02\x00\x01"), entry(-49, "b")}},
		{"a part of them in the line's length", []api.Entry{entry(1, "ab"), entry(9, "\x00\x01a")}},
		{"the same time, and a line that begins with its own", []api.Entry{entry(1, "aa"), entry(1, "a\x02\x00\x01a")}},
		{"the same end", []api.Entry{entry(2, "a"), entry(65, "a"), entry(1<<20, "\x02\x00\x01a")}},
	} {
		has(t, engine(append(c.list, a)...), record.Sort(false, append(c.list, a)...)...)
		has(t, engine(append(c.list, a, a)...), record.Sort(false, append(c.list, a)...)...)
		g := engine(c.list...)
		g.Add(entry(1, "a\n"))
		asks(t, g, times(0, 1), behind(entry(0, "z")), false, 99, kept(times(0, 1), record.Sort(false, c.list...)), true)
		if g.Len() != len(c.list) {
			t.Errorf("%s: %d entries", c.why, g.Len())
		}
	}
}

// Entries that end alike, or of which one's texts begin with another's.
func TestP15_1_BytesThatAreAlike(t *testing.T) {
	var list []api.Entry
	for _, at := range []int{-65, -64, -1, 0, 1, 63, 64, 65, 8191, 8192, 1 << 20} {
		for _, line := range []string{"", "a", "ab", "abc", "abcabc", "bc", "c", "\x01c", "\x00", xs(126), xs(127), xs(128), xs(129), xs(199), xs(200)} {
			list = append(list, entry(at, line), entry(at, line, "a", ""), entry(at, line, "a", "a"), entry(at, line, "a", "abc"), entry(at, line, "a", "abc", "abc", "a"), entry(at, line, "abc", ""))
		}
	}
	sorted := record.Sort(false, list...)
	r := rand.New(rand.NewSource(153))
	for range 3 {
		r.Shuffle(len(list), func(i, k int) { list[i], list[k] = list[k], list[i] })
		g := engine(list...)
		has(t, g, sorted...)
		for _, e := range list {
			g.Add(e)
		}
		has(t, g, sorted...)
	}
}

// smallLists are all lists of up to four small entries, with some that are there again.
func smallLists() [][]api.Entry {
	small := []api.Entry{{}, entry(1, ""), entry(0, "\x00"), entry(0, "", "a", ""), entry(1, "\x00\x00", "a", "\x00"), entry(-1, "\x01")}
	lists := [][]api.Entry{nil}
	for from := 0; len(lists[from]) < 4; from++ {
		for _, e := range small {
			next := append([]api.Entry{}, lists[from]...)
			lists = append(lists, append(next, e))
		}
	}
	return lists
}

// All small lists, asked for whole, and from and to each time.
func TestP15_1_AllSmallLists(t *testing.T) {
	for _, list := range smallLists() {
		g := engine(list...)
		want := record.Sort(false, list...)
		has(t, g, want...)
		for from := -2; from < 3; from++ {
			for to := -2; to < 3; to++ {
				q := times(from, to)
				asks(t, g, q, api.Mark{}, true, 9, turned(kept(q, want), true), true)
			}
		}
	}
}

// Long rows in rising and falling order, and in any, added again and again.
func TestP15_1_RowsOfEachLength(t *testing.T) {
	r := rand.New(rand.NewSource(154))
	for n := range 150 {
		list := row(n)
		has(t, engine(list...), list...)
		has(t, engine(turned(list, true)...), list...)
		g := scan.New()
		for range 3 {
			for _, i := range r.Perm(n) {
				g.Add(list[i])
				g.Add(list[i])
			}
		}
		has(t, g, list...)
		asks(t, g, times(10, 10*n-20), api.Mark{}, true, math.MaxInt, turned(list[min(1, n):max(min(1, n), n-1)], true), true)
	}
}

// row are entries in their order, at 0, 10, 20 and so on, of several labels and lines.
func row(n int) []api.Entry {
	var out []api.Entry
	for i := range n {
		labels := []string{"app", "x", "env", strconv.Itoa(i % 3)}
		out = append(out, entry(10*i, "q"+strings.Repeat("r", i%5), labels[:i%3*2]...))
	}
	return out
}

// Lines and values of every length, of bytes that are no text.
func TestP15_1_TextsOfEachLength(t *testing.T) {
	var list []api.Entry
	for n := range 201 {
		value := strings.Repeat("\xff\x00\n", 7)[:n%21]
		list = append(list, entry(n/7, strings.Repeat("\x80\x00\xff\x7f ", 41)[:n], "a"+xs(n%20), value, "b", value))
	}
	for _, e := range list {
		has(t, engine(e), e)
		has(t, engine(e, entry(9, "q"), e), record.Sort(false, e, entry(9, "q"))...)
	}
	g := engine(list...)
	has(t, g, record.Sort(false, list...)...)
	for at := -1; at < 31; at++ {
		asks(t, g, times(at, at), api.Mark{}, false, 99, kept(times(at, at), record.Sort(false, list...)), true)
	}
}
