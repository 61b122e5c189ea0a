package record_test

import (
	"math"
	"slices"
	"strings"
	"testing"

	"magpie/api"
	"magpie/record"
)

// rising are entries in their order; beside each stands why it comes behind the one ahead.
var rising = []struct {
	why string
	e   api.Entry
}{
	{"", entry(math.MinInt, "z", "z", "z")},
	{"by time, from the least on", entry(-1<<40, "z", "z", "z")},
	{"by time, below 0", entry(-5, "z", "z", "z")},
	{"by time ahead of labels and lines", entry(-4, "b", "b", "b")},
	{"by time, to 0", entry(0, "")},
	{"by line, an empty one first", entry(0, "\x00")},
	{"by line, where it goes on", entry(0, "\x00\x00")},
	{"by line, a byte above", entry(0, "\n")},
	{"by line, a great letter ahead of a small one", entry(0, "Z")},
	{"by line, a byte at its beginning ahead of how long it is", entry(0, "a")},
	{"by line, where it goes on", entry(0, "aa")},
	{"by line, a byte at its end", entry(0, "ab")},
	{"by line, a byte at its beginning", entry(0, "b")},
	{"by line, bytes and not runes", entry(0, "\uffff")},
	{"by line, bytes and not runes", entry(0, "\U00010000")},
	{"by line, a byte that is no rune", entry(0, "\xff")},
	{"no label ahead of one", entry(0, "", "", "")},
	{"by name, an empty one first", entry(0, "", "A", "")},
	{"labels ahead of lines", entry(0, "b", "A", "")},
	{"by name, a great letter ahead of a small one", entry(0, "", "a", "")},
	{"by line, of the same label", entry(0, "a", "a", "")},
	{"one label ahead of two that go on", entry(0, "", "a", "", "a", "")},
	{"by the second label's name", entry(0, "", "a", "", "b", "")},
	{"by line, of the same two", entry(0, "z", "a", "", "b", "")},
	{"two labels ahead of three that go on", entry(0, "", "a", "", "b", "", "a", "")},
	{"by the second label's value", entry(0, "", "a", "", "b", "a")},
	{"by the second label's value, where it goes on", entry(0, "", "a", "", "b", "aa")},
	{"by the first label's value ahead of the second label", entry(0, "", "a", "x")},
	{"one label ahead of two that go on", entry(0, "", "a", "x", "b", "")},
	{"4 labels behind two that are alike", entry(0, "", "a", "x", "b", "", "c", "", "d", "")},
	{"by the last label's value", entry(0, "", "a", "x", "b", "", "c", "", "d", "0")},
	{"5 labels behind 4 that are alike", entry(0, "", "a", "x", "b", "", "c", "", "d", "0", "e", "")},
	{"by value ahead of how many labels there are", entry(0, "", "a", "xa")},
	{"by value, bytes and not runes", entry(0, "", "a", "\xff")},
	{"by name ahead of value", entry(0, "", "aa", "")},
	{"by name ahead of value, what both have in a row being the same", entry(0, "", "ax", "")},
	{"by the first name ahead of what stands behind", entry(0, "", "b", "", "a", "")},
	{"by name, behind all letters", entry(0, "", "\xff", "")},
	{"by time", entry(1, "")},
	{"by time ahead of labels and lines", entry(2, "")},
	{"by time, more digits behind", entry(10, "")},
	{"by time", entry(1<<40, "")},
	{"by time, up to the greatest", entry(math.MaxInt, "")},
}

func sign(n int) int {
	switch {
	case n < 0:
		return -1
	case n > 0:
		return 1
	}
	return 0
}

// compared asks whether two entries come in that order, by all that tells it.
func compared(t *testing.T, why string, a, b api.Entry, want int) {
	t.Helper()
	if got := record.Compare(a, b); got != want {
		t.Errorf("%s: Compare of %.80q and %.80q is %d, not %d", why, text(a), text(b), got, want)
	}
	if got := record.Order(false)(a, b); got != want {
		t.Errorf("%s: Order(false) of %.80q and %.80q is %d, not %d", why, text(a), text(b), got, want)
	}
	if got := record.Order(true)(a, b); got != -want {
		t.Errorf("%s: Order(true) of %.80q and %.80q is %d, not %d", why, text(a), text(b), got, -want)
	}
}

func TestP4_1_CompareRising(t *testing.T) {
	for i, a := range rising {
		for k, b := range rising {
			compared(t, rising[max(i, k)].why, a.e, b.e, sign(i-k))
		}
	}
}

// key answers a text such that two of them, byte by byte, are in their entries' order: what tells one text from another stands in each byte of a text, and what ends one is below all that goes on.
func key(e api.Entry) string {
	at := uint64(e.At) ^ 1<<63
	var b []byte
	for i := range 8 {
		b = append(b, byte(at>>(56-8*i)))
	}
	ended := func(s string) {
		for i := range len(s) {
			b = append(b, 1, s[i])
		}
		b = append(b, 0)
	}
	for _, l := range e.Labels {
		b = append(b, 1)
		ended(l.Name)
		ended(l.Value)
	}
	b = append(b, 0)
	ended(e.Line)
	return string(b)
}

func TestP4_1_CompareAll(t *testing.T) {
	list := append(pool(), all()...)
	var keys []string
	for _, e := range list {
		keys = append(keys, key(e))
	}
	for i, a := range list {
		for k, b := range list {
			if got, want := record.Compare(a, b), strings.Compare(keys[i], keys[k]); got != want {
				t.Fatalf("Compare of %.80q and %.80q is %d, not %d", text(a), text(b), got, want)
			}
		}
	}
}

// What is the same needn't share any memory, nor be nil where the other one is.
func TestP4_1_CompareTheSame(t *testing.T) {
	compared(t, "no list and an empty one", api.Entry{At: 1, Line: "a"}, api.Entry{At: 1, Line: "a", Labels: []api.Label{}}, 0)
	compared(t, "an empty list and none", api.Entry{At: 1, Line: "a", Labels: make([]api.Label, 0, 3)}, api.Entry{At: 1, Line: "a"}, 0)
	for _, e := range all() {
		other := copied([]api.Entry{e})[0]
		other.Line = strings.Clone(other.Line)
		compared(t, "a copy", e, other, 0)
		compared(t, "itself", e, e, 0)
	}
}

// Orders made one after the other know nothing of one another.
func TestP4_1_OrderIsItsOwn(t *testing.T) {
	up, down := record.Order(false), record.Order(true)
	again := record.Order(false)
	a, b := entry(5, "b"), entry(6, "a")
	if up(a, b) != -1 || down(a, b) != 1 || again(a, b) != -1 || up(b, a) != 1 || down(b, a) != -1 || down(a, a) != 0 {
		t.Error("one order is another's")
	}
}

// sorted asks whether entries, handed to Sort, are those, the one way round and the other.
func sorted(t *testing.T, list, want []api.Entry) {
	t.Helper()
	for _, desc := range []bool{false, true} {
		got := record.Sort(desc, list...)
		if len(got) != len(want) {
			t.Errorf("Sort(%v) of %d entries: %d, not %d", desc, len(list), len(got), len(want))
			continue
		}
		for i := range got {
			is := want[i]
			if desc {
				is = want[len(want)-1-i]
			}
			if !same(got[i], is) {
				t.Errorf("Sort(%v) of %d entries: %d is %.80q, not %.80q", desc, len(list), i, text(got[i]), text(is))
				break
			}
		}
	}
}

func TestP4_1_SortFew(t *testing.T) {
	a, b, c := entry(5, "b"), entry(6, "a"), entry(6, "a", "x", "y")
	for _, row := range []struct{ list, want []api.Entry }{
		{nil, nil},
		{[]api.Entry{}, nil},
		{[]api.Entry{a}, []api.Entry{a}},
		{[]api.Entry{{}}, []api.Entry{{}}},
		{[]api.Entry{a, a}, []api.Entry{a}},
		{[]api.Entry{{}, {}, {}}, []api.Entry{{}}},
		{[]api.Entry{b, a}, []api.Entry{a, b}},
		{[]api.Entry{a, b}, []api.Entry{a, b}},
		{[]api.Entry{c, b, a}, []api.Entry{a, b, c}},
		{[]api.Entry{b, c, a}, []api.Entry{a, b, c}},
		{[]api.Entry{a, b, a}, []api.Entry{a, b}},
		{[]api.Entry{b, a, b, a, b}, []api.Entry{a, b}},
		{[]api.Entry{c, c, a, a, b, b, c}, []api.Entry{a, b, c}},
		{[]api.Entry{{At: 1, Labels: []api.Label{}}, {At: 1}, {At: 1, Labels: make([]api.Label, 0, 2)}}, []api.Entry{{At: 1}}},
	} {
		sorted(t, row.list, row.want)
	}
}

// Whatever way round entries are handed in, and however often each, they come out in their order, once.
func TestP4_1_SortMany(t *testing.T) {
	var want []api.Entry
	for _, c := range rising {
		want = append(want, c.e)
	}
	for step := 1; step < len(want); step++ {
		var list []api.Entry
		for times := range 1 + step%3 {
			for i := range want {
				list = append(list, want[(i*step+times)%len(want)])
			}
		}
		list = append(list, want...)
		slices.Reverse(list)
		sorted(t, list, want)
		sorted(t, copied(list), want)
	}
	back := slices.Clone(want)
	slices.Reverse(back)
	sorted(t, back, want)
	for most := range want {
		sorted(t, append(slices.Clone(back[len(back)-most:]), want[:most]...), want[:most])
	}
}

func TestP4_1_SortAll(t *testing.T) {
	list := append(pool(), all()...)
	keys := map[string]api.Entry{}
	for _, e := range list {
		keys[key(e)] = e
	}
	var names []string
	for name := range keys {
		names = append(names, name)
	}
	slices.Sort(names)
	var want []api.Entry
	for _, name := range names {
		want = append(want, keys[name])
	}
	sorted(t, list, want)
	sorted(t, append(list, list...), want)
}

// A list that is handed in stays as it is, with the room behind it, and what is answered is another one.
func TestP4_1_SortLeavesWhatIsHandedIn(t *testing.T) {
	room := []api.Entry{entry(3, "c"), entry(1, "a", "x", "y"), entry(3, "c"), entry(2, "b"), entry(9, "room"), entry(8, "room")}
	was := copied(room)
	for _, desc := range []bool{false, true} {
		for size := range 5 {
			list := room[:size]
			got := record.Sort(desc, list...)
			want := copied(got)
			if !allSame(room, was) {
				t.Fatalf("Sort(%v) changed %v to %v", desc, was, room)
			}
			for i := range got {
				got[i] = entry(7, "other")
			}
			_ = append(got, entry(7, "other"))
			if !allSame(room, was) {
				t.Fatalf("Sort(%v): what is answered is what was handed in", desc)
			}
			got = record.Sort(desc, list...)
			for i := range list {
				list[i] = entry(7, "other")
			}
			if !allSame(got, want) {
				t.Errorf("Sort(%v): what is written behind the call is seen: %v, not %v", desc, got, want)
			}
			copy(room, copied(was))
		}
	}
}

// The order of the chapter's example, and that it is one over many entries: of two just one is ahead, or they are the same, and so on over three.
func TestP4_2_TheOrderIsOne(t *testing.T) {
	if record.Compare(entry(5, "b"), entry(6, "a")) != -1 {
		t.Error(`at 5 "b" doesn't come ahead of at 6 "a"`)
	}
	list := pool()
	for i := range list {
		// Some of one time alone, and those above: of all of them there are too many threes.
		if list[i].At == 1 {
			list = slices.Concat(list[i:i+60], all())
			break
		}
	}
	for _, order := range []func(a, b api.Entry) int{record.Compare, record.Order(false), record.Order(true)} {
		ahead := make([][]int, len(list))
		for i, a := range list {
			for k, b := range list {
				ahead[i] = append(ahead[i], order(a, b))
				if got, want := ahead[i][k] == 0, same(a, b); got != want {
					t.Fatalf("%.80q and %.80q are the same: %v", text(a), text(b), got)
				}
			}
		}
		one(t, list, ahead)
	}
}

// one asks whether what comes ahead of what comes ahead comes ahead.
func one(t *testing.T, list []api.Entry, ahead [][]int) {
	t.Helper()
	for i := range list {
		for k := range list {
			if ahead[i][k] != -ahead[k][i] {
				t.Fatalf("%.80q and %.80q: %d, and %d", text(list[i]), text(list[k]), ahead[i][k], ahead[k][i])
			}
			for j := range list {
				if ahead[i][k] <= 0 && ahead[k][j] <= 0 && ahead[i][j] != min(ahead[i][k], ahead[k][j]) {
					t.Fatalf("%.80q, %.80q, %.80q: not in one order", text(list[i]), text(list[k]), text(list[j]))
				}
			}
		}
	}
}
