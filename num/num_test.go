package num_test

import (
	"math"
	"strconv"
	"strings"
	"testing"

	"magpie/num"
)

const most = math.MaxUint64

// numbers are those at which a number gets a byte longer, and their neighbours.
var numbers = []struct {
	n    uint64
	text string
}{
	{0, "\x00"},
	{1, "\x01"},
	{300, "\xac\x02"},
	{1<<7 - 1, "\x7f"},
	{1 << 7, "\x80\x01"},
	{1<<14 - 1, "\xff\x7f"},
	{1 << 14, "\x80\x80\x01"},
	{1<<21 - 1, "\xff\xff\x7f"},
	{1 << 21, "\x80\x80\x80\x01"},
	{1<<28 - 1, "\xff\xff\xff\x7f"},
	{1 << 28, "\x80\x80\x80\x80\x01"},
	{1<<35 - 1, "\xff\xff\xff\xff\x7f"},
	{1 << 35, "\x80\x80\x80\x80\x80\x01"},
	{1<<42 - 1, "\xff\xff\xff\xff\xff\x7f"},
	{1 << 42, "\x80\x80\x80\x80\x80\x80\x01"},
	{1<<49 - 1, "\xff\xff\xff\xff\xff\xff\x7f"},
	{1 << 49, "\x80\x80\x80\x80\x80\x80\x80\x01"},
	{1<<56 - 1, "\xff\xff\xff\xff\xff\xff\xff\x7f"},
	{1 << 56, "\x80\x80\x80\x80\x80\x80\x80\x80\x01"},
	{1<<63 - 1, "\xff\xff\xff\xff\xff\xff\xff\xff\x7f"},
	{1 << 63, "\x80\x80\x80\x80\x80\x80\x80\x80\x80\x01"},
	{1<<64 - 1, "\xff\xff\xff\xff\xff\xff\xff\xff\xff\x01"},
}

var signed = []struct {
	n    int
	text string
}{
	{0, "\x00"},
	{-1, "\x01"},
	{1, "\x02"},
	{-2, "\x03"},
	{2, "\x04"},
	{63, "\x7e"},
	{-64, "\x7f"},
	{64, "\x80\x01"},
	{-65, "\x81\x01"},
	{8191, "\xfe\x7f"},
	{-8192, "\xff\x7f"},
	{8192, "\x80\x80\x01"},
	{math.MaxInt, "\xfe\xff\xff\xff\xff\xff\xff\xff\xff\x01"},
	{math.MinInt + 1, "\xfd\xff\xff\xff\xff\xff\xff\xff\xff\x01"},
	{math.MinInt, "\xff\xff\xff\xff\xff\xff\xff\xff\xff\x01"},
}

var texts = []struct {
	s    string
	text string
}{
	{"", "\x00"},
	{"a", "\x01a"},
	{"\x00\xff\x80", "\x03\x00\xff\x80"},
	{"é", "\x02\xc3\xa9"},
	{strings.Repeat("x", 127), "\x7f" + strings.Repeat("x", 127)},
	{strings.Repeat("x", 128), "\x80\x01" + strings.Repeat("x", 128)},
	{strings.Repeat("x", 20000), "\xa0\x9c\x01" + strings.Repeat("x", 20000)},
}

// broken are bytes that break off ahead of a number's end.
var broken = []string{
	"",
	"\x80",
	"\x81",
	"\xff",
	"\xff\x80",
	strings.Repeat("\x80", 9),
	strings.Repeat("\xff", 9),
}

// wrong are bytes that no number begins with, whatever stands behind them.
var wrong = []struct {
	why, text string
}{
	{"0 as two bytes", "\x80\x00"},
	{"1 as two bytes", "\x81\x00"},
	{"127 as two bytes", "\xff\x00"},
	{"1 as three bytes", "\x81\x80\x00"},
	{"128 as three bytes", "\x80\x81\x00"},
	{"0 as ten bytes", strings.Repeat("\x80", 9) + "\x00"},
	{"2^63 - 1 as ten bytes", strings.Repeat("\xff", 9) + "\x00"},
	{"2^64", strings.Repeat("\x80", 9) + "\x02"},
	{"2^64 + 2^63", strings.Repeat("\x80", 9) + "\x03"},
	{"2^65 - 1", strings.Repeat("\xff", 9) + "\x03"},
	{"2^70 - 1", strings.Repeat("\xff", 9) + "\x7f"},
	{"ten bytes that go on", strings.Repeat("\xff", 10)},
	{"eleven bytes", strings.Repeat("\xff", 10) + "\x01"},
	{"1 as eleven bytes", "\x81" + strings.Repeat("\x80", 9) + "\x00"},
}

// spent asks all of a reader with which something is wrong.
func spent(t *testing.T, what string, r *num.Reader) {
	t.Helper()
	for range 2 {
		if n := r.Uint(most); n != 0 {
			t.Errorf("%s: Uint is %d behind what is wrong", what, n)
		}
		if n := r.Int(); n != 0 {
			t.Errorf("%s: Int is %d behind what is wrong", what, n)
		}
		if s := r.Text(math.MaxInt); s != "" {
			t.Errorf("%s: Text is %q behind what is wrong", what, s)
		}
		if r.Bool() {
			t.Errorf("%s: Bool is true behind what is wrong", what)
		}
		if !r.Bad() || r.End() {
			t.Errorf("%s: Bad is %v, End is %v behind what is wrong", what, r.Bad(), r.End())
		}
	}
}

// left asks whether a reader has so much left, and nothing is wrong; it reads that.
func left(t *testing.T, what string, r *num.Reader, rest string) {
	t.Helper()
	if r.Bad() || r.End() != (rest == "") {
		t.Errorf("%s: Bad is %v, End is %v ahead of %q", what, r.Bad(), r.End(), rest)
	}
	for i := range len(rest) {
		if n := r.Uint(most); n != uint64(rest[i]) || r.Bad() || r.End() != (i == len(rest)-1) {
			t.Errorf("%s: %d is read instead of byte %d of %q", what, n, i, rest)
		}
	}
}

func TestP1_1_UintAndSize(t *testing.T) {
	for _, c := range numbers {
		if got := string(num.Uint(nil, c.n)); got != c.text {
			t.Errorf("Uint(%d) is %x, not %x", c.n, got, c.text)
		}
		if got := num.Size(c.n); got != len(c.text) {
			t.Errorf("Size(%d) is %d, not %d", c.n, got, len(c.text))
		}
	}
}

func TestP1_1_Int(t *testing.T) {
	for _, c := range signed {
		if got := string(num.Int(nil, c.n)); got != c.text {
			t.Errorf("Int(%d) is %x, not %x", c.n, got, c.text)
		}
	}
}

func TestP1_1_Text(t *testing.T) {
	for _, c := range texts {
		if got := string(num.Text(nil, c.s)); got != c.text {
			t.Errorf("Text(%.9q) is %x, not %x", c.s, got, c.text)
		}
	}
}

func TestP1_1_Bool(t *testing.T) {
	if got := string(num.Bool(nil, true)); got != "\x01" {
		t.Errorf("Bool(true) is %x", got)
	}
	if got := string(num.Bool(nil, false)); got != "\x00" {
		t.Errorf("Bool(false) is %x", got)
	}
}

// What is put stands behind the bytes that are there, whether there is room behind them or not.
func TestP1_1_Behind(t *testing.T) {
	calls := []struct {
		name string
		put  func([]byte) []byte
		want string
	}{
		{"Uint", func(b []byte) []byte { return num.Uint(b, 300) }, "\xac\x02"},
		{"Int", func(b []byte) []byte { return num.Int(b, -65) }, "\x81\x01"},
		{"Text", func(b []byte) []byte { return num.Text(b, "xyz") }, "\x03xyz"},
		{"Text of nothing", func(b []byte) []byte { return num.Text(b, "") }, "\x00"},
		{"Bool true", func(b []byte) []byte { return num.Bool(b, true) }, "\x01"},
		{"Bool false", func(b []byte) []byte { return num.Bool(b, false) }, "\x00"},
	}
	for _, c := range calls {
		for _, start := range []string{"", "\x00", "\x80", "some"} {
			for _, room := range []int{0, 1, 50} {
				b := append(make([]byte, 0, len(start)+room), start...)
				if got := string(c.put(b)); got != start+c.want {
					t.Errorf("%s behind %q, room %d: %q", c.name, start, room, got)
				}
				if string(b) != start {
					t.Errorf("%s changed %q to %q", c.name, start, b)
				}
			}
		}
	}
}

// All kinds one behind the other are read in their order; the reader is at its end behind the last one alone.
func TestP1_1_InOrder(t *testing.T) {
	b := num.Uint(nil, 300)
	b = num.Bool(b, true)
	b = num.Text(b, "")
	b = num.Int(b, math.MinInt)
	b = num.Text(b, "a b")
	b = num.Bool(b, false)
	b = num.Uint(b, most)
	r := num.From(string(b))
	for i, read := range []func() bool{
		func() bool { return r.Uint(300) == 300 },
		func() bool { return r.Bool() },
		func() bool { return r.Text(0) == "" },
		func() bool { return r.Int() == math.MinInt },
		func() bool { return r.Text(3) == "a b" },
		func() bool { return !r.Bool() },
		func() bool { return r.Uint(most) == most },
	} {
		if r.Bad() || r.End() {
			t.Fatalf("ahead of part %d: Bad is %v, End is %v", i, r.Bad(), r.End())
		}
		if !read() {
			t.Fatalf("part %d isn't read", i)
		}
	}
	left(t, "all parts", r, "")
	if r.Bool() {
		t.Error("behind the end something is read")
	}
	spent(t, "behind the end", r)
}

func TestP1_1_UintUpToMost(t *testing.T) {
	for _, c := range numbers {
		r := num.From(c.text + "\x05\x06")
		if n := r.Uint(c.n); n != c.n {
			t.Errorf("%d, most the same: %d", c.n, n)
		}
		left(t, "a number that is most", r, "\x05\x06")
		if c.n == 0 {
			continue
		}
		r = num.From(c.text + "\x05\x06")
		if n := r.Uint(c.n - 1); n != 0 {
			t.Errorf("%d, most one less: %d", c.n, n)
		}
		spent(t, "a number above most", r)
		r = num.From(c.text)
		if n := r.Uint(0); n != 0 {
			t.Errorf("%d, most 0: %d", c.n, n)
		}
		spent(t, "a number above 0", r)
	}
}

func TestP1_1_TextUpToMost(t *testing.T) {
	for _, c := range texts {
		for _, m := range []int{len(c.s), len(c.s) + 1, math.MaxInt} {
			r := num.From(c.text + "\x05\x06")
			if s := r.Text(m); s != c.s {
				t.Errorf("%.9q, most %d: %.9q", c.s, m, s)
			}
			left(t, "a text up to most", r, "\x05\x06")
		}
		if c.s == "" {
			continue
		}
		for _, m := range []int{len(c.s) - 1, 0, -1, math.MinInt} {
			r := num.From(c.text + "\x05\x06")
			if s := r.Text(m); s != "" {
				t.Errorf("%.9q, most %d: %.9q", c.s, m, s)
			}
			spent(t, "a text longer than most", r)
		}
	}
}

// A most below 0 is 0: an empty text may still be read.
func TestP1_1_TextMostBelowZero(t *testing.T) {
	for _, m := range []int{0, -1, -300, math.MinInt} {
		r := num.From("\x00\x05")
		if s := r.Text(m); s != "" {
			t.Errorf("most %d: %q", m, s)
		}
		left(t, "an empty text", r, "\x05")
	}
}

// noNumber asks every call for bytes that no number begins with, first of all and behind a good number.
func noNumber(t *testing.T, what, text string) {
	t.Helper()
	for _, call := range []struct {
		name string
		none func(r *num.Reader) bool
	}{
		{"Uint", func(r *num.Reader) bool { return r.Uint(most) == 0 }},
		{"Int", func(r *num.Reader) bool { return r.Int() == 0 }},
		{"Text", func(r *num.Reader) bool { return r.Text(math.MaxInt) == "" }},
		{"Bool", func(r *num.Reader) bool { return !r.Bool() }},
	} {
		r := num.From(text)
		if !call.none(r) {
			t.Errorf("%s: %s reads something", what, call.name)
		}
		spent(t, what+", "+call.name, r)
		r = num.From("\x07" + text)
		if r.Uint(7) != 7 || r.Bad() {
			t.Errorf("%s: the number ahead isn't read", what)
		}
		if !call.none(r) {
			t.Errorf("%s: %s reads something behind a number", what, call.name)
		}
		spent(t, what+", behind a number, "+call.name, r)
	}
}

func TestP1_1_NumberBreaksOff(t *testing.T) {
	for _, text := range broken {
		noNumber(t, strconv.Quote(text), text)
	}
}

// What is wrong stays so, however good the bytes behind it are.
func TestP1_1_NoNumber(t *testing.T) {
	for _, c := range wrong {
		for _, behind := range []string{"", "\x00", "\x01", "\x01a\x01"} {
			noNumber(t, c.why, c.text+behind)
		}
	}
}

func TestP1_1_TextBreaksOff(t *testing.T) {
	for _, c := range texts {
		for _, size := range []int{0, len(c.text) / 2, len(c.text) - 1} {
			r := num.From(c.text[:size])
			if s := r.Text(math.MaxInt); s != "" {
				t.Errorf("%.9q, %d bytes: %.9q", c.s, size, s)
			}
			spent(t, "a text that breaks off", r)
		}
	}
	for _, n := range []uint64{1, 1 << 31, 1 << 62, math.MaxInt, 1 << 63, most} {
		r := num.From(string(num.Uint(nil, n)))
		if s := r.Text(math.MaxInt); s != "" {
			t.Errorf("%d bytes, but none there: %q", n, s)
		}
		spent(t, "a text of bytes that aren't there", r)
	}
}

func TestP1_1_NoBool(t *testing.T) {
	for c := 2; c < 256; c++ {
		r := num.From(string([]byte{byte(c), 1, 1}))
		if r.Bool() {
			t.Errorf("byte %d is a yes", c)
		}
		spent(t, "a byte that is neither yes nor no", r)
	}
}

func TestP1_1_NoReader(t *testing.T) {
	var r *num.Reader
	spent(t, "a nil reader", r)
}

func TestP1_1_Empty(t *testing.T) {
	r := num.From("")
	left(t, "a reader of nothing", r, "")
	if r.Uint(most) != 0 {
		t.Error("a number is read of nothing")
	}
	spent(t, "a reader of nothing", r)
}

// Readers of the same bytes know nothing of one another.
func TestP1_1_TwoReaders(t *testing.T) {
	a, b := num.From("\x07\x08"), num.From("\x07\x08")
	if a.Uint(0) != 0 || !a.Bad() {
		t.Error("7 is read, though it is above 0")
	}
	left(t, "the other reader", b, "\x07\x08")
	spent(t, "the one reader", a)
}

func TestP1_2_NumbersComeBack(t *testing.T) {
	check := func(n uint64) {
		b := num.Uint(nil, n)
		if num.Size(n) != len(b) {
			t.Errorf("%d has %d bytes, but Size %d", n, len(b), num.Size(n))
		}
		r := num.From(string(b))
		if got := r.Uint(most); got != n || !r.End() {
			t.Errorf("%d is read as %d, End is %v", n, got, r.End())
		}
		r = num.From(string(num.Int(nil, int(n))))
		if got := r.Int(); got != int(n) || !r.End() {
			t.Errorf("%d is read as %d, End is %v", int(n), got, r.End())
		}
	}
	for n := range uint64(70000) {
		check(n)
		check(-n)
	}
	for bit := range 64 {
		for near := range uint64(5) {
			check(1<<bit + near - 2)
		}
	}
	n := uint64(1)
	for range 50000 {
		n = n*6364136223846793005 + 1442695040888963407
		check(n)
		check(n >> (n % 64))
	}
}

func TestP1_2_TextsComeBack(t *testing.T) {
	for size := range 300 {
		s := strings.Repeat("\x00\x80\xffa", 75)[:size]
		r := num.From(string(num.Text(nil, s)))
		if got := r.Text(size); got != s || !r.End() {
			t.Errorf("a text of %d bytes is read as %q, End is %v", size, got, r.End())
		}
	}
}

func TestP1_2_BoolsComeBack(t *testing.T) {
	for _, is := range []bool{true, false} {
		r := num.From(string(num.Bool(nil, is)))
		if got := r.Bool(); got != is || !r.End() {
			t.Errorf("%v is read as %v, End is %v", is, got, r.End())
		}
	}
}

// onlyPut asks that, if bytes are read to their end by a call, they are those that are put for what it read.
func onlyPut(t *testing.T, s string) {
	t.Helper()
	r := num.From(s)
	if n := r.Uint(most); r.End() && string(num.Uint(nil, n)) != s {
		t.Errorf("%x is read as the number %d", s, n)
	}
	r = num.From(s)
	if n := r.Int(); r.End() && string(num.Int(nil, n)) != s {
		t.Errorf("%x is read as the number with a sign %d", s, n)
	}
	r = num.From(s)
	if v := r.Text(math.MaxInt); r.End() && string(num.Text(nil, v)) != s {
		t.Errorf("%x is read as the text %q", s, v)
	}
	r = num.From(s)
	if is := r.Bool(); r.End() && string(num.Bool(nil, is)) != s {
		t.Errorf("%x is read as %v", s, is)
	}
}

func TestP1_2_NoOtherBytes(t *testing.T) {
	onlyPut(t, "")
	for i := range 1 << 8 {
		onlyPut(t, string([]byte{byte(i)}))
	}
	for i := range 1 << 16 {
		onlyPut(t, string([]byte{byte(i), byte(i >> 8)}))
	}
	edges := "\x00\x01\x02\x7f\x80\x81\xff"
	for i := range 7 * 7 * 7 * 7 * 7 {
		b := make([]byte, 5)
		for at, n := 0, i; at < len(b); at, n = at+1, n/7 {
			b[at] = edges[n%7]
		}
		onlyPut(t, string(b[:3]))
		onlyPut(t, string(b[:4]))
		onlyPut(t, string(b))
		onlyPut(t, strings.Repeat("\x80", 7)+string(b))
		onlyPut(t, strings.Repeat("\xff", 7)+string(b))
	}
}

// Of ten bytes only those are a number whose last one is 1: it can't be 0, and hasn't room for more.
func TestP1_2_TheTenthByte(t *testing.T) {
	for _, ahead := range []string{strings.Repeat("\x80", 9), strings.Repeat("\xff", 9)} {
		for c := range 256 {
			r := num.From(ahead + string([]byte{byte(c)}))
			r.Uint(most)
			if r.End() != (c == 1) || r.Bad() != (c != 1) {
				t.Errorf("%x%02x: End is %v, Bad is %v", ahead, c, r.End(), r.Bad())
			}
		}
	}
}
