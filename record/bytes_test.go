package record_test

import (
	"math"
	"slices"
	"strings"
	"testing"

	"magpie/api"
	"magpie/num"
	"magpie/record"
)

func TestP4_1_Value(t *testing.T) {
	four := entry(1, "e=5", "a", "1", "b", "", "c", "a", "d", "b")
	for _, c := range []struct {
		e     api.Entry
		name  string
		value string
		ok    bool
	}{
		{four, "a", "1", true},
		{four, "b", "", true},
		{four, "c", "a", true},
		{four, "d", "b", true},
		{four, "e", "", false},
		{four, "", "", false},
		{four, "A", "", false},
		{four, "aa", "", false},
		{four, "1", "", false},
		{entry(1, "a", "aa", "1"), "a", "", false},
		{entry(1, "a"), "a", "", false},
		{api.Entry{}, "", "", false},
		{api.Entry{Labels: []api.Label{}}, "a", "", false},
		{entry(1, "", xs(20), xs(20)), xs(20), xs(20), true},
		{entry(1, "", xs(20), xs(20)), xs(19), "", false},
		{entry(1, "", "a", "\xff\n"), "a", "\xff\n", true},
		// Those below can't be.
		{entry(1, "", "a", "1", "a", "2"), "a", "1", true},
		{entry(1, "", "a", "", "a", "2"), "a", "", true},
		{entry(1, "", "b", "1", "a", "2", "b", "3"), "b", "1", true},
		{entry(1, "", "c", "1", "b", "2", "a", "3"), "a", "3", true},
		{entry(1, "", "c", "1", "b", "2", "a", "3"), "b", "2", true},
		{entry(1, "", "a", "1", "b", "2", "c", "3", "d", "4", "e", "5"), "e", "5", true},
		{entry(1, "", "", "x"), "", "x", true},
		{entry(1, "", "9", "x"), "9", "x", true},
		{entry(1, "", "\xff", "x"), "\xff", "x", true},
		{entry(1, "", "\xff", "x"), "\ufffd", "", false},
		{entry(1, "", xs(300), xs(300)), xs(300), xs(300), true},
		{entry(math.MaxInt, "\n", "a", xs(21)), "a", xs(21), true},
	} {
		if v, ok := record.Value(c.e, c.name); v != c.value || ok != c.ok {
			t.Errorf("Value of %.80q, %q: %q, %v", text(c.e), c.name, v, ok)
		}
	}
}

// bytes are entries, the bytes of their labels, and what stands ahead of these and behind.
var bytes = []struct {
	e                     api.Entry
	ahead, labels, behind string
}{
	{api.Entry{}, "\x00", "\x00", "\x00"},
	{api.Entry{Labels: []api.Label{}}, "\x00", "\x00", "\x00"},
	{entry(-1, "hi", "a", "xy"), "\x01", "\x01\x01a\x02xy", "\x02hi"},
	{entry(1, "", "a", ""), "\x02", "\x01\x01a\x00", "\x00"},
	{entry(63, "a=b\x00\xff", "a", "\x00\n\xff", "b", "é"), "\x7e", "\x02\x01a\x03\x00\n\xff\x01b\x02\xc3\xa9", "\x05a=b\x00\xff"},
	{entry(64, "", "a", "1", "b", "2", "c", "3", "d", "4"), "\x80\x01", "\x04\x01a\x011\x01b\x012\x01c\x013\x01d\x014", "\x00"},
	{entry(1<<40, xs(127), xs(20), xs(20)), "\x80\x80\x80\x80\x80\x40", "\x01\x14" + xs(20) + "\x14" + xs(20), "\x7f" + xs(127)},
	{entry(-1<<40, xs(128)), "\xff\xff\xff\xff\xff\x3f", "\x00", "\x80\x01" + xs(128)},
	{entry(0, xs(200)), "\x00", "\x00", "\xc8\x01" + xs(200)},
	// Those below can't be.
	{entry(1<<40+1, "\n"), "\x82\x80\x80\x80\x80\x40", "\x00", "\x01\n"},
	{entry(-1<<40-1, ""), "\x81\x80\x80\x80\x80\x40", "\x00", "\x00"},
	{entry(math.MaxInt, xs(201)), "\xfe\xff\xff\xff\xff\xff\xff\xff\xff\x01", "\x00", "\xc9\x01" + xs(201)},
	{entry(math.MinInt, ""), "\xff\xff\xff\xff\xff\xff\xff\xff\xff\x01", "\x00", "\x00"},
	{entry(0, "", "b", "1", "a", "2", "b", "3", "", "", "9", ""), "\x00", "\x05\x01b\x011\x01a\x012\x01b\x013\x00\x00\x019\x00", "\x00"},
	{entry(0, xs(20000), xs(300), xs(128)), "\x00", "\x01\xac\x02" + xs(300) + "\x80\x01" + xs(128), "\xa0\x9c\x01" + xs(20000)},
	{entry(0, "", slices.Repeat([]string{"a", ""}, 200)...), "\x00", "\xc8\x01" + strings.Repeat("\x01a\x00", 200), "\x00"},
}

func TestP4_1_Stream(t *testing.T) {
	for _, c := range bytes {
		if got := record.Stream(c.e); got != c.labels {
			t.Errorf("Stream of %.80q: %.80q, not %.80q", text(c.e), got, c.labels)
		}
		c.e.At++
		c.e.Line += "x"
		if got := record.Stream(c.e); got != c.labels {
			t.Errorf("Stream of %.80q hangs on more than the labels: %.80q", text(c.e), got)
		}
	}
}

func TestP4_1_Put(t *testing.T) {
	for _, c := range bytes {
		if got := string(record.Put(nil, c.e)); got != c.ahead+c.labels+c.behind {
			t.Errorf("Put of %.80q: %.80q", text(c.e), got)
		}
	}
}

// An entry stands behind the bytes that are there, whether there is room behind them or not.
func TestP4_1_PutBehind(t *testing.T) {
	for _, c := range bytes {
		want := c.ahead + c.labels + c.behind
		for _, start := range []string{"", "\x00", "\x80", "some"} {
			for _, room := range []int{0, 1, 2, 3, 5, len(want) - 1, len(want), len(want) + 50} {
				b := append([]byte(start), strings.Repeat("r", room)...)[:len(start)]
				got := record.Put(b, c.e)
				if string(got) != start+want {
					t.Errorf("%.80q behind %q, room %d: %.80q", text(c.e), start, room, got)
				}
				if string(b) != start {
					t.Errorf("Put changed %q to %q", start, b)
				}
				if next := string(record.Put(got, entry(-1, "hi"))); next != start+want+"\x01\x00\x02hi" {
					t.Errorf("the next one behind %.80q: %.80q", got, next)
				}
			}
		}
	}
}

// An entry that is asked of is as it was, its labels' room included.
func TestP4_1_EntriesStay(t *testing.T) {
	for _, e := range all() {
		was := copied([]api.Entry{e})[0]
		room := append(slices.Clone(e.Labels), api.Label{Name: "room", Value: "r"})
		e.Labels = room[:len(e.Labels)]
		record.Good(e)
		record.Compare(e, was)
		record.Order(true)(e, was)
		record.Sort(true, e, was, e)
		record.Value(e, "a")
		record.Stream(e)
		record.Put(nil, e)
		if !same(e, was) || room[len(room)-1].Name != "room" {
			t.Errorf("%.80q is %.80q now", text(was), text(e))
		}
	}
}

// rest answers how many bytes a reader has left, each below 128; below 0: something is wrong with it.
func rest(r *num.Reader) int {
	n := 0
	for !r.End() {
		r.Uint(127)
		if r.Bad() {
			return -1
		}
		n++
	}
	return n
}

// read asks whether the next entry of a reader is that one.
func read(t *testing.T, r *num.Reader, want api.Entry) {
	t.Helper()
	got, ok := record.Get(r)
	if !ok || !same(got, want) || r.Bad() {
		t.Errorf("%.80q is read as %.80q, %v; Bad is %v", text(want), text(got), ok, r.Bad())
	}
}

// none asks whether of bytes no entry is read.
func none(t *testing.T, why, s string) {
	t.Helper()
	if e, ok := record.Get(num.From(s)); ok || !same(e, api.Entry{}) {
		t.Errorf("%s: %.80q is read as %.80q, %v", why, s, text(e), ok)
	}
}

func TestP4_1_Get(t *testing.T) {
	for _, c := range good {
		s := string(record.Put(nil, c.e))
		r := num.From(s)
		read(t, r, c.e)
		if !r.End() {
			t.Errorf("%s: something is left", c.why)
		}
		for n := range 4 {
			r = num.From(s + strings.Repeat("\x07", n))
			read(t, r, c.e)
			if got := rest(r); got != n {
				t.Errorf("%s: %d bytes are left, not %d", c.why, got, n)
			}
		}
	}
}

// One entry behind the other is read, each to where it ends; behind the last one there is none.
func TestP4_1_GetInOrder(t *testing.T) {
	b := num.Bool(nil, true)
	for _, c := range good {
		b = record.Put(b, c.e)
	}
	r := num.From(string(num.Text(b, "end")))
	if !r.Bool() {
		t.Fatal("what stands ahead isn't read")
	}
	for _, c := range good {
		read(t, r, c.e)
	}
	if r.End() || r.Text(3) != "end" || !r.End() {
		t.Errorf("what stands behind isn't read; Bad is %v", r.Bad())
	}
	for range 2 {
		if e, ok := record.Get(r); ok || !same(e, api.Entry{}) || !r.Bad() {
			t.Errorf("behind the end %q is read, %v; Bad is %v", text(e), ok, r.Bad())
		}
	}
}

func TestP4_1_GetBreaksOff(t *testing.T) {
	for _, c := range good {
		s := string(record.Put(nil, c.e))
		for size := range len(s) {
			r := num.From(s[:size])
			if e, ok := record.Get(r); ok || !same(e, api.Entry{}) || !r.Bad() {
				t.Errorf("%s: of %d bytes of %d is read %.80q, %v; Bad is %v", c.why, size, len(s), text(e), ok, r.Bad())
			}
			if e, ok := record.Get(r); ok || !same(e, api.Entry{}) {
				t.Errorf("%s: behind what breaks off is read %.80q, %v", c.why, text(e), ok)
			}
		}
	}
}

func TestP4_1_GetOfWhatCannotBe(t *testing.T) {
	for _, c := range bad {
		s := string(record.Put(nil, c.e))
		none(t, c.why, s)
		none(t, c.why+", and bytes behind", s+"\x00\x00\x00")
	}
}

// Each part's number in more bytes than it needs, as none, or as one too great.
func TestP4_1_GetOfOtherBytes(t *testing.T) {
	many := strings.Repeat("\xff", 9) + "\x01"
	over := strings.Repeat("\xff", 10) + "\x01"
	for _, n := range []string{"\x81\x00", "\x80\x00", many, over} {
		none(t, "the time", n+"\x01\x01a\x01b\x01c")
	}
	for _, n := range []string{"\x81\x00", "\x80\x00", many, over, "\x80\x80\x80\x80\x10", "\xc9\x01"} {
		none(t, "how many labels", "\x02"+n+"\x01a\x01b\x01c")
		none(t, "a name", "\x02\x01"+n+"a\x01b\x01c")
		none(t, "a value", "\x02\x01\x01a"+n+"b\x01c")
		none(t, "the line", "\x02\x01\x01a\x01b"+n+"c")
		none(t, "the line, with bytes enough", "\x02\x01\x01a\x01b"+n+xs(300))
	}
	none(t, "nothing", "")
	none(t, "fewer labels than are told", "\x02\x02\x01a\x01b\x01")
	none(t, "5 labels", "\x02\x05"+"\x01a\x00\x01b\x00\x01c\x00\x01d\x00\x01e\x00"+"\x01c")
	none(t, "a name of 21 bytes", "\x02\x01\x15"+xs(21)+"\x01b\x01c")
	none(t, "a value of 21 bytes", "\x02\x01\x01a\x15"+xs(21)+"\x01c")
	none(t, "a line of 201 bytes", "\x02\x00\xc9\x01"+xs(201))
}

func TestP4_1_GetOfWrongReaders(t *testing.T) {
	if e, ok := record.Get(nil); ok || !same(e, api.Entry{}) {
		t.Errorf("of nil is read %q, %v", text(e), ok)
	}
	r := num.From("\x07\x02\x00\x00\x02\x00\x00")
	r.Uint(6)
	for range 3 {
		if e, ok := record.Get(r); ok || !same(e, api.Entry{}) || !r.Bad() {
			t.Errorf("of a reader with which something is wrong is read %q, %v", text(e), ok)
		}
	}
}

// Two readers know nothing of one another, nor do the entries that are read of them.
func TestP4_1_GetTwice(t *testing.T) {
	e := entry(1, "a", "a", "b", "c", "d")
	s := string(record.Put(record.Put(nil, e), e))
	one, other := num.From(s), num.From(s)
	first, _ := record.Get(one)
	second, _ := record.Get(one)
	third, _ := record.Get(other)
	first.Labels[0].Value, first.Labels[1].Name = "x", "y"
	first.Labels = append(first.Labels, api.Label{Name: "z"})
	if !same(second, e) || !same(third, e) {
		t.Errorf("%q and %q", text(second), text(third))
	}
	read(t, other, e)
	if !one.End() || !other.End() {
		t.Error("something is left")
	}
}

// What can be is read again to the same, and nothing is left; what can't be isn't read.
func TestP4_2_PutIsRead(t *testing.T) {
	for _, e := range append(pool(), all()...) {
		r := num.From(string(record.Put(nil, e)))
		got, ok := record.Get(r)
		if ok != record.Good(e) {
			t.Errorf("%.80q is read: %v", text(e), ok)
		}
		if ok && (!same(got, e) || !r.End()) {
			t.Errorf("%.80q is read as %.80q, End is %v", text(e), text(got), r.End())
		}
	}
}

// Times, sizes of texts, and how many labels, at which a number gets a byte longer, and their neighbours.
func TestP4_2_SizesAreRead(t *testing.T) {
	check := func(e api.Entry) {
		if record.Good(e) {
			r := num.From(string(record.Put(nil, e)))
			read(t, r, e)
			if !r.End() {
				t.Errorf("%.80q: something is left", text(e))
			}
		}
	}
	for bit := range 42 {
		for near := range 5 {
			check(entry(1<<bit+near-2, "a"))
			check(entry(-1<<bit+near-2, "a"))
		}
	}
	for size := range 201 {
		check(entry(size, strings.Repeat("\x00\x80\xffa", 51)[:size]))
	}
	for size := range 21 {
		value := strings.Repeat("\n\xff\x00", 7)[:size]
		check(entry(size, "", "a"+xs(max(size-1, 0)), value, "b", value, "c"+xs(max(size-1, 0)), "", "d", value))
	}
}

// Two entries have the same bytes just if they are the same, and their labels' just if those are.
func TestP4_2_BytesTellEntries(t *testing.T) {
	list := append(pool(), all()...)
	list = append(list, copied(list)...)
	for i, a := range list {
		mine, stream := record.Put(nil, a), record.Stream(a)
		for _, b := range list[i:] {
			if got, want := string(mine) == string(record.Put(nil, b)), same(a, b); got != want {
				t.Fatalf("%.80q and %.80q have the same bytes: %v", text(a), text(b), got)
			}
			if got, want := stream == record.Stream(b), slices.Equal(a.Labels, b.Labels); got != want {
				t.Fatalf("%.80q and %.80q have the same labels' bytes: %v", text(a), text(b), got)
			}
		}
	}
}

// No bytes are read to their end but those that are put for what is read.
func TestP4_2_OnlyPutBytesAreRead(t *testing.T) {
	for _, c := range good {
		s := string(record.Put(nil, c.e))
		for at := range s {
			for c := range 256 {
				other := []byte(s)
				other[at] = byte(c)
				r := num.From(string(other))
				if e, ok := record.Get(r); ok && r.End() && (!record.Good(e) || string(record.Put(nil, e)) != string(other)) {
					t.Fatalf("%.80q is read as %.80q", other, text(e))
				}
			}
		}
	}
}
