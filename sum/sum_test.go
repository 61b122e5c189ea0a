package sum_test

import (
	"hash/crc32"
	"math"
	"strings"
	"testing"

	"magpie/api"
	"magpie/num"
	"magpie/sum"
)

// sums are those of some texts, and how they stand behind these.
var sums = []struct {
	text string
	sum  uint32
	end  string
}{
	{"", 0, "\x00\x00\x00\x00"},
	{"\x00", 0xd202ef8d, "\x8d\xef\x02\xd2"},
	{"\x01", 0xa505df1b, "\x1b\xdf\x05\xa5"},
	{"\x80", 0x3fba6cad, "\xad\x6c\xba\x3f"},
	{"\xff", 0xff000000, "\x00\x00\x00\xff"},
	{"a", 0xe8b7be43, "\x43\xbe\xb7\xe8"},
	{"abc", 0x352441c2, "\xc2\x41\x24\x35"},
	{"\x00\x00\x00\x00", 0x2144df1c, "\x1c\xdf\x44\x21"},
	{"\xff\xff\xff\xff", 0xffffffff, "\xff\xff\xff\xff"},
	{"123456789", 0xcbf43926, "\x26\x39\xf4\xcb"},
	{"The quick brown fox jumps over the lazy dog", 0x414fa339, "\x39\xa3\x4f\x41"},
}

// mixed answers so many bytes, with nothing regular about them, and always the same.
func mixed(size int) string {
	b := make([]byte, size)
	n := uint32(1)
	for i := range b {
		n = n*1664525 + 1013904223
		b[i] = byte(n >> 24)
	}
	return string(b)
}

func TestP2_1_KnownSums(t *testing.T) {
	for _, c := range sums {
		if got := sum.Of(c.text); got != c.sum {
			t.Errorf("Of(%q) is %08x, not %08x", c.text, got, c.sum)
		}
	}
}

// like asks whether a text's sum is that which the library has of it.
func like(t *testing.T, s string) {
	t.Helper()
	if got, want := sum.Of(s), crc32.ChecksumIEEE([]byte(s)); got != want {
		t.Errorf("Of %d bytes, %.20q, is %08x, not %08x", len(s), s, got, want)
	}
}

func TestP2_1_EveryByte(t *testing.T) {
	for c := range 256 {
		one := string([]byte{byte(c)})
		for _, s := range []string{one, one + one, one + "abc", "abc" + one, "ab" + one + "c"} {
			like(t, s)
		}
	}
	for i := range 1 << 16 {
		like(t, string([]byte{byte(i), byte(i >> 8)}))
	}
}

func TestP2_1_EveryLength(t *testing.T) {
	all := mixed(600)
	for size := range len(all) + 1 {
		like(t, all[:size])
		like(t, strings.Repeat("\x00", size))
		like(t, strings.Repeat("\xff", size))
	}
	for _, size := range []int{api.MaxFrame, api.MaxScript, 1 << 17} {
		like(t, mixed(size))
	}
}

// Bytes are summed, not runes: of a rune each byte, and of no rune too.
func TestP2_1_BytesNotRunes(t *testing.T) {
	for _, s := range []string{"é", "日本", "\U0001f426", "\ufffd", "\xc3", "\xa9", "a\xffb", "\xed\xa0\x80"} {
		like(t, s)
	}
	if sum.Of("\xff") == sum.Of("\ufffd") {
		t.Error("a byte that is no rune is summed as if it were one")
	}
}

func TestP2_1_Seal(t *testing.T) {
	for _, c := range sums {
		if got := string(sum.Seal([]byte(c.text))); got != c.text+c.end {
			t.Errorf("%q is sealed as %q, not %q", c.text, got, c.text+c.end)
		}
	}
	if got := string(sum.Seal(nil)); got != "\x00\x00\x00\x00" {
		t.Errorf("nil is sealed as %q", got)
	}
}

// What stands in the room behind the bytes isn't summed, and the bytes stay as they are.
func TestP2_1_SealWithRoom(t *testing.T) {
	for _, c := range sums {
		for room := range 10 {
			b := []byte(c.text + "xxxxxxxxxx"[:room])[:len(c.text)]
			if got := string(sum.Seal(b)); got != c.text+c.end {
				t.Errorf("%q with room %d is sealed as %q", c.text, room, got)
			}
			if string(b) != c.text {
				t.Errorf("Seal changed %q to %q", c.text, b)
			}
		}
	}
}

// opens asks whether bytes are opened to those, and read as those are.
func opens(t *testing.T, s, want string) {
	t.Helper()
	if got, ok := sum.Open(s); got != want || !ok {
		t.Errorf("Open of %.40q is %.40q, %v, not %.40q", s, got, ok, want)
	}
	r, like := sum.Reader(s), num.From(want)
	for i := range len(want) + 2 {
		if r.Bad() != like.Bad() || r.End() != like.End() {
			t.Errorf("Reader of %.40q: Bad is %v, End is %v behind %d numbers", s, r.Bad(), r.End(), i)
			return
		}
		if n, is := r.Uint(math.MaxUint64), like.Uint(math.MaxUint64); n != is {
			t.Errorf("Reader of %.40q: number %d is %d, not %d", s, i, n, is)
			return
		}
	}
}

// shut asks whether bytes aren't opened, and nothing is read of them.
func shut(t *testing.T, s string) {
	t.Helper()
	if got, ok := sum.Open(s); got != "" || ok {
		t.Errorf("Open of %.40q is %.40q, %v", s, got, ok)
	}
	r := sum.Reader(s)
	if r == nil {
		t.Errorf("there is no reader of %.40q", s)
	}
	for range 2 {
		if !r.Bad() || r.End() {
			t.Errorf("Reader of %.40q: Bad is %v, End is %v", s, r.Bad(), r.End())
		}
		if n := r.Uint(math.MaxUint64); n != 0 {
			t.Errorf("Reader of %.40q: Uint is %d", s, n)
		}
		if n := r.Int(); n != 0 {
			t.Errorf("Reader of %.40q: Int is %d", s, n)
		}
		if v := r.Text(math.MaxInt); v != "" {
			t.Errorf("Reader of %.40q: Text is %q", s, v)
		}
		if r.Bool() {
			t.Errorf("Reader of %.40q: Bool is true", s)
		}
	}
}

func TestP2_1_Open(t *testing.T) {
	for _, c := range sums {
		opens(t, c.text+c.end, c.text)
	}
}

// Fewer bytes than a sum has are no sealed ones, whatever they are; as many are only those of an empty text's.
func TestP2_1_OpenShort(t *testing.T) {
	shut(t, "")
	shut(t, "abc")
	shut(t, "\x00\x00\x00")
	for i := range 1 << 8 {
		shut(t, string([]byte{byte(i)}))
		shut(t, string([]byte{byte(i), byte(i), byte(i)}))
	}
	for i := range 1 << 16 {
		shut(t, string([]byte{byte(i), byte(i >> 8)}))
		if i != 0 {
			shut(t, string([]byte{byte(i), 0, 0, byte(i >> 8)}))
			shut(t, string([]byte{0, byte(i), byte(i >> 8), 0}))
		}
	}
	opens(t, "\x00\x00\x00\x00", "")
}

// A sum that stands elsewhere, or in another way, or is another text's, seals nothing.
func TestP2_1_OpenUnsealed(t *testing.T) {
	for _, c := range []struct {
		why, text string
	}{
		{"no sum", "a"},
		{"a longer text without a sum", "123456789"},
		{"a sum without its text", "\x43\xbe\xb7\xe8"},
		{"the highest byte first", "a\xe8\xb7\xbe\x43"},
		{"bits that weren't turned at the end", "a\xbc\x41\x48\x17"},
		{"a sum that is 0 at first", "a\x31\xae\x4a\xc5"},
		{"the sum ahead", "\x43\xbe\xb7\xe8a"},
		{"three bytes of the sum", "a\x43\xbe\xb7"},
		{"a byte more at the end", "a\x43\xbe\xb7\xe8\x00"},
		{"a byte more at the beginning", "\x00a\x43\xbe\xb7\xe8"},
		{"a byte more between", "a\x00\x43\xbe\xb7\xe8"},
		{"the sum twice", "a\x43\xbe\xb7\xe8\x43\xbe\xb7\xe8"},
		{"the sum of abc", "a\xc2\x41\x24\x35"},
		{"the sum of an empty text", "a\x00\x00\x00\x00"},
		{"the sum of a", "b\x43\xbe\xb7\xe8"},
		{"as many bytes the other way round", "cba\xc2\x41\x24\x35"},
		{"the first byte is away", "bc\xc2\x41\x24\x35"},
		{"the last byte is away", "ab\xc2\x41\x24\x35"},
		{"0 sealed by 0", "\x00\x00\x00\x00\x00"},
		{"ones sealed by ones", "\xff\xff\xff\xff\xff"},
	} {
		if got, ok := sum.Open(c.text); got != "" || ok {
			t.Errorf("%s: Open is %q, %v", c.why, got, ok)
		}
		shut(t, c.text)
	}
}

func TestP2_1_Reader(t *testing.T) {
	b := num.Text(nil, "ab")
	b = num.Int(b, -300)
	b = num.Bool(b, true)
	r := sum.Reader(string(sum.Seal(b)))
	if r.Text(2) != "ab" || r.Int() != -300 || r.End() || !r.Bool() || !r.End() || r.Bad() {
		t.Errorf("Bad is %v, End is %v", r.Bad(), r.End())
	}
	if r = sum.Reader(string(sum.Seal(b))); r.Text(1) != "" || !r.Bad() {
		t.Error("a text is read that is longer than it may be")
	}
	if r = sum.Reader(string(sum.Seal(nil))); r.Bad() || !r.End() {
		t.Errorf("of nothing: Bad is %v, End is %v", r.Bad(), r.End())
	}
}

// The sum itself isn't read, though it could be, as a number or as part of a text.
func TestP2_1_ReaderStopsAtTheSum(t *testing.T) {
	r := sum.Reader(string(sum.Seal(nil)))
	if r.Uint(0) != 0 || !r.Bad() {
		t.Error("of nothing a number is read")
	}
	r = sum.Reader(string(sum.Seal([]byte{4})))
	if s := r.Text(4); s != "" || !r.Bad() {
		t.Errorf("%q is read, which is the sum", s)
	}
}

// Readers of the same bytes know nothing of one another, nor of those that went wrong ahead of them.
func TestP2_1_TwoReaders(t *testing.T) {
	s := string(sum.Seal([]byte{7, 8}))
	one, other := sum.Reader(s), sum.Reader(s)
	if one.Uint(0) != 0 || !one.Bad() {
		t.Error("7 is read, though it is above 0")
	}
	shut(t, s+"x")
	if other.Uint(9) != 7 || other.Uint(9) != 8 || !other.End() {
		t.Error("the other reader isn't as it was")
	}
	opens(t, s, "\x07\x08")
}

func TestP2_2_SealedIsOpened(t *testing.T) {
	all := mixed(600)
	for size := range len(all) + 1 {
		for _, s := range []string{all[:size], strings.Repeat("\x00", size), strings.Repeat("\xff", size)} {
			opens(t, string(sum.Seal([]byte(s))), s)
		}
	}
	for i := range 1 << 16 {
		s := string([]byte{byte(i), byte(i >> 8)})
		opens(t, string(sum.Seal([]byte(s))), s)
	}
	long := mixed(api.MaxFrame)
	opens(t, string(sum.Seal([]byte(long))), long)
}

// What is sealed may be sealed again, and is opened as often.
func TestP2_2_SealedTwice(t *testing.T) {
	for _, c := range sums {
		once := string(sum.Seal([]byte(c.text)))
		opens(t, string(sum.Seal([]byte(once))), once)
		opens(t, once, c.text)
	}
}

// otherwise answers bytes with some of the 32 bits from a place on the other way round; a byte's lowest bit is its first.
func otherwise(s string, place int, bits uint32) string {
	b := []byte(s)
	for i := range 32 {
		if at := place + i; bits>>i&1 == 1 {
			b[at/8] ^= 1 << (at % 8)
		}
	}
	return string(b)
}

// rows answers bits of which the first and the last are so far from one another: all between them, none, every other one, and mixed ones.
func rows(size int) []uint32 {
	all := uint32(1<<size - 1)
	ends := uint32(1 | 1<<(size-1))
	out := []uint32{all, ends, ends | 0x55555555&all}
	n := uint32(size)
	for range 4 {
		n = n*1664525 + 1013904223
		out = append(out, ends|n&all)
	}
	return out
}

// none asks that bytes that are opened aren't, with up to 32 bits in a row otherwise, from a place on.
func none(t *testing.T, s string, place int) {
	t.Helper()
	for size := 1; size <= 32 && place+size <= 8*len(s); size++ {
		for _, bits := range rows(size) {
			shut(t, otherwise(s, place, bits))
		}
	}
}

func TestP2_2_OneBitOtherwise(t *testing.T) {
	for _, size := range []int{0, 1, 2, 3, 4, 5, 9, 100, 500} {
		s := string(sum.Seal([]byte(mixed(size))))
		for place := range 8 * len(s) {
			shut(t, otherwise(s, place, 1))
		}
	}
}

func TestP2_2_UpTo32BitsInARow(t *testing.T) {
	for _, size := range []int{0, 1, 2, 3, 4, 9, 40} {
		for _, text := range []string{mixed(size), strings.Repeat("\x00", size), strings.Repeat("\xff", size)} {
			s := string(sum.Seal([]byte(text)))
			opens(t, s, text)
			for place := range 8 * len(s) {
				none(t, s, place)
			}
		}
	}
}

// All ways in which up to 12 bits in a row can be otherwise.
func TestP2_2_EveryRowOf12Bits(t *testing.T) {
	for _, text := range []string{"", "a", "abc"} {
		s := string(sum.Seal([]byte(text)))
		for place := range 8*len(s) - 11 {
			for bits := uint32(1); bits < 1<<12; bits++ {
				if got, ok := sum.Open(otherwise(s, place, bits)); got != "" || ok {
					t.Errorf("%q: bits %b from %d on: it is opened to %q", text, bits, place, got)
				}
			}
		}
	}
}

// The longest letter, at its beginning, in its middle, at its end, and where its sum begins.
func TestP2_2_BitsOfALetter(t *testing.T) {
	s := string(sum.Seal([]byte(mixed(api.MaxFrame - 4))))
	last := 8 * len(s)
	for _, place := range []int{0, last / 2, last - 33, last - 1} {
		none(t, s, place)
	}
}
