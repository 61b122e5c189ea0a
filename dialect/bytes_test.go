package dialect_test

import (
	"math"
	"math/rand"
	"slices"
	"strings"
	"testing"

	"magpie/api"
	"magpie/dialect"
	"magpie/num"
)

const (
	// last and first are the bytes of the greatest time, and of the least one.
	last  = "\x80\x80\x80\x80\x80\x40"
	first = "\xff\xff\xff\xff\xff\x3f"
)

// good64 is 64 rows of 64 words, all of them the letter a.
func good64() [][]string {
	return slices.Repeat([][]string{slices.Repeat([]string{"a"}, 64)}, 64)
}

// spelt are questions that can be, and their bytes.
func spelt() []struct {
	ask   any
	bytes string
} {
	return []struct {
		ask   any
		bytes string
	}{
		{scans(0, 0), "\x03\x00\x00"},
		{scans(1, 9), "\x03\x02\x12"},
		{scans(9, 1), "\x03\x12\x02"},
		{scans(-1, -64), "\x03\x01\x7f"},
		{scans(64, -65), "\x03\x80\x01\x81\x01"},
		{scans(api.MaxTime, -api.MaxTime), "\x03" + last + first},
		{scans(-api.MaxTime, api.MaxTime), "\x03" + first + last},
		{tokens(0, 0), "\x01\x00\x00\x00"},
		{tokens(1, 9, nil), "\x01\x02\x12\x01\x00"},
		{tokens(1, 9, nil, nil), "\x01\x02\x12\x02\x00\x00"},
		{tokens(1, 9, row("")), "\x01\x02\x12\x01\x01\x00"},
		{tokens(1, 9, row("a", "b"), row("c")), "\x01\x02\x12\x02\x02\x01a\x01b\x01\x01c"},
		{tokens(1, 9, row("b", "a", "b"), nil, row("", "\xff\n\x00")), "\x01\x02\x12\x03\x03\x01b\x01a\x01b\x00\x02\x00\x03\xff\n\x00"},
		{tokens(-api.MaxTime, 0, row("é")), "\x01" + first + "\x00\x01\x01\x02\xc3\xa9"},
		{tokens(0, 1, row(xs(127), xs(128))), "\x01\x00\x02\x01\x02\x7f" + xs(127) + "\x80\x01" + xs(128)},
		{tokens(0, 1, row(xs(1024))), "\x01\x00\x02\x01\x01\x80\x08" + xs(1024)},
		{tokens(0, 1, make([][]string, 64)...), "\x01\x00\x02\x40" + strings.Repeat("\x00", 64)},
		{tokens(0, 1, make([]string, 64)), "\x01\x00\x02\x01\x40" + strings.Repeat("\x00", 64)},
		{tokens(0, 1, good64()...), "\x01\x00\x02\x40" + strings.Repeat("\x40"+strings.Repeat("\x01a", 64), 64)},
		{streams(0, 0), "\x02\x00\x00\x00"},
		{streams(1, 9, isnt("app", "x")), "\x02\x02\x12\x01\x03app\x01\x01x"},
		{streams(1, 9, is("app", "x")), "\x02\x02\x12\x01\x03app\x00\x01x"},
		{streams(9, 1, is("b", ""), isnt("a", "é"), is("b", "")), "\x02\x12\x02\x03\x01b\x00\x00\x01a\x01\x02\xc3\xa9\x01b\x00\x00"},
		{streams(0, api.MaxTime, is(xs(20), xs(1024)), isnt("_", "\x00\t\r"), is("A9", "\ufffd"), isnt("z", `"\`)), "\x02\x00" + last + "\x04\x14" + xs(20) + "\x00\x80\x08" + xs(1024) + "\x01_\x01\x03\x00\t\r\x02A9\x00\x03\xef\xbf\xbd\x01z\x01\x02\"\\"},
	}
}

func TestP12_1_Put(t *testing.T) {
	for _, c := range spelt() {
		if got := string(dialect.Put(nil, c.ask)); got != c.bytes {
			t.Errorf("%s: %.200q", text(c.ask), got)
		}
	}
	if got := string(dialect.Put(nil, api.TokenAsk{All: [][]string{{}}})); got != "\x01\x00\x00\x01\x00" {
		t.Errorf("an empty row: %q", got)
	}
	if got := string(dialect.Put(nil, api.StreamAsk{Match: []api.Matcher{}})); got != "\x02\x00\x00\x00" {
		t.Errorf("an empty list: %q", got)
	}
}

// A question stands behind the bytes that are there, whether there is room behind them or not.
func TestP12_1_PutBehind(t *testing.T) {
	for _, c := range spelt() {
		for _, start := range []string{"", "\x00", "\x80", "some"} {
			for _, room := range []int{0, 1, 2, 3, 5, len(c.bytes) - 1, len(c.bytes), len(c.bytes) + 50} {
				b := append([]byte(start), strings.Repeat("r", room)...)[:len(start)]
				got := dialect.Put(b, c.ask)
				if string(got) != start+c.bytes {
					t.Errorf("%s behind %q, room %d: %.200q", text(c.ask), start, room, got)
				}
				if string(b) != start {
					t.Errorf("Put changed %q to %q", start, b)
				}
				if next := string(dialect.Put(got, scans(1, 9))); next != start+c.bytes+"\x03\x02\x12" {
					t.Errorf("the next one behind %s: %.200q", text(c.ask), next)
				}
			}
		}
	}
}

// read asks whether the next question of a reader is that one.
func read(t *testing.T, r *num.Reader, want any) {
	t.Helper()
	got, ok := dialect.Get(r)
	if !ok || !same(got, want) || r.Bad() {
		t.Errorf("%s is read as %s, %v; Bad is %v", text(want), text(got), ok, r.Bad())
	}
}

// none asks whether of bytes no question is read.
func none(t *testing.T, why, s string) {
	t.Helper()
	if got, ok := dialect.Get(num.From(s)); ok || got != nil {
		t.Errorf("%s: %.200q is read as %s, %v", why, s, text(got), ok)
	}
}

func TestP12_1_Get(t *testing.T) {
	for _, c := range spelt() {
		r := num.From(c.bytes)
		read(t, r, c.ask)
		if !r.End() {
			t.Errorf("%s: something is left", text(c.ask))
		}
		r = num.From(c.bytes + "\x03end")
		read(t, r, c.ask)
		if r.End() || r.Text(3) != "end" || !r.End() {
			t.Errorf("%s: what stands behind isn't read", text(c.ask))
		}
	}
}

// One question behind the other is read, each to where it ends; behind the last one there is none.
func TestP12_1_GetInOrder(t *testing.T) {
	b := num.Bool(nil, true)
	for _, c := range spelt() {
		b = dialect.Put(b, c.ask)
	}
	r := num.From(string(num.Text(b, "end")))
	if !r.Bool() {
		t.Fatal("what stands ahead isn't read")
	}
	for _, c := range spelt() {
		read(t, r, c.ask)
	}
	if r.End() || r.Text(3) != "end" || !r.End() {
		t.Errorf("what stands behind isn't read; Bad is %v", r.Bad())
	}
	for range 2 {
		if got, ok := dialect.Get(r); ok || got != nil {
			t.Errorf("behind the end %s is read, %v", text(got), ok)
		}
	}
}

func TestP12_1_GetBreaksOff(t *testing.T) {
	for _, c := range spelt() {
		for size := range len(c.bytes) {
			none(t, "it breaks off", c.bytes[:size])
		}
	}
}

// Bytes of no question: of no kind that there is, of too many bytes to a number, and of nothing.
func TestP12_1_GetOfNoKind(t *testing.T) {
	none(t, "nothing", "")
	for _, rest := range []string{"", "\x00", "\x00\x00", "\x02\x12", "\x00\x00\x00", "\x02\x12\x01\x01\x01a", "\x02\x12\x01\x01a\x00\x01x"} {
		for kind := range uint64(300) {
			if kind < 1 || kind > 3 {
				none(t, "a kind", string(num.Uint(nil, kind))+rest)
			}
		}
		for _, kind := range []uint64{1<<8 + 1, 1<<16 + 2, 1<<32 + 3, 1<<63 + 1, math.MaxUint64} {
			none(t, "a kind", string(num.Uint(nil, kind))+rest)
		}
		none(t, "a kind in two bytes", "\x83\x00"+rest)
		none(t, "a kind in two bytes", "\x81\x00"+rest)
	}
}

// Bytes of one kind with another's number: what is told then is that kind's question, or nothing.
func TestP12_1_GetOfAnotherKind(t *testing.T) {
	rest := "\x02\x12\x01\x01a\x00\x01x"
	r := num.From("\x02" + rest)
	read(t, r, streams(1, 9, is("a", "x")))
	r = num.From("\x03" + rest)
	read(t, r, scans(1, 9))
	if r.End() || r.Bad() {
		t.Error("a ScanAsk ends behind its times")
	}
	none(t, "a StreamAsk's as a TokenAsk's", "\x01\x02\x12\x01\x61")
	none(t, "a TokenAsk's as a StreamAsk's", "\x02\x02\x12\x01\x01\x01a")
	none(t, "a ScanAsk's as a TokenAsk's", "\x01\x02\x12")
	none(t, "a ScanAsk's as a StreamAsk's", "\x02\x02\x12")
	for _, c := range spelt() {
		for kind := 1; kind <= 3; kind++ {
			r := num.From(string(rune(kind)) + c.bytes[1:])
			if got, ok := dialect.Get(r); ok && (dialect.Kind(got) != kind || !dialect.Good(got)) || !ok && got != nil {
				t.Errorf("%s with the kind %d: %s, %v", text(c.ask), kind, text(got), ok)
			}
		}
	}
}

// Each part's number in more bytes than it needs, as none, or as one too great.
func TestP12_1_GetOfOtherNumbers(t *testing.T) {
	many := strings.Repeat("\xff", 9) + "\x01"
	over := strings.Repeat("\xff", 10) + "\x01"
	above := "\x82\x80\x80\x80\x80\x40"
	below := "\x81\x80\x80\x80\x80\x40"
	tail := strings.Repeat("\x00", 5000)
	for _, n := range []string{"\x81\x00", "\x80\x00", many, over, above, below} {
		for _, kind := range []string{"\x01", "\x02", "\x03"} {
			none(t, "From", kind+n+"\x02"+tail)
			none(t, "To", kind+"\x02"+n+tail)
		}
	}
	for _, n := range []string{"\x81\x00", "\x80\x00", many, over, "\x41", "\x80\x01", "\x80\x80\x80\x80\x10"} {
		none(t, "how many rows", "\x01\x02\x12"+n+tail)
		none(t, "how many words", "\x01\x02\x12\x01"+n+tail)
		none(t, "how many words of the second row", "\x01\x02\x12\x02\x01\x01a"+n+tail)
		none(t, "how many matchers", "\x02\x02\x12"+n+strings.Repeat("\x01a\x00\x00", 100))
	}
	none(t, "5 matchers", "\x02\x02\x12\x05"+strings.Repeat("\x01a\x00\x00", 5))
	for _, n := range []string{"\x81\x00", "\x80\x00", many, over, "\x81\x08", "\x80\x80\x01"} {
		none(t, "a word", "\x01\x02\x12\x01\x01"+n+tail)
		none(t, "the last word", "\x01\x02\x12\x02\x00\x02\x01a"+n+tail)
		none(t, "a value", "\x02\x02\x12\x01\x01a\x00"+n+tail)
	}
	for _, n := range []string{"\x81\x00", "\x80\x00", many, over, "\x15", "\x80\x01"} {
		none(t, "a name", "\x02\x02\x12\x01"+n+xs(200)+"\x00\x00")
	}
	for _, n := range []string{"\x02", "\x03", "\x7f", "\x80\x00", "\x81\x00", many} {
		none(t, "Not", "\x02\x02\x12\x01\x01a"+n+tail)
	}
}

// A question that can't be isn't read, though its bytes could be.
func TestP12_1_GetOfWhatCannotBe(t *testing.T) {
	for _, ask := range []any{
		scans(api.MaxTime+1, 0), scans(0, api.MaxTime+1), scans(-api.MaxTime-1, 0), scans(0, -api.MaxTime-1), scans(math.MinInt, math.MaxInt), tokens(0, api.MaxTime+1), tokens(-api.MaxTime-1, 0), streams(0, api.MaxTime+1), streams(-api.MaxTime-1, 0),
		tokens(0, 1, make([][]string, 65)...), tokens(0, 1, make([]string, 65)), tokens(0, 1, nil, make([]string, 65)), tokens(0, 1, row(xs(1025))), tokens(0, 1, row("a"), row("b", xs(1025))),
		streams(0, 1, slices.Repeat([]api.Matcher{is("a", "")}, 5)...), streams(0, 1, is("", "")), streams(0, 1, is("9", "")), streams(0, 1, is("a-", "")), streams(0, 1, is(xs(21), "")), streams(0, 1, is("a", ""), is("\xff", "")),
		streams(0, 1, is("a", "\n")), streams(0, 1, is("a", "\xff")), streams(0, 1, is("a", xs(1025))), streams(0, 1, is("a", ""), is("b", ""), is("c", ""), isnt("d", "x\n")),
	} {
		if dialect.Good(ask) {
			t.Errorf("%s can be", text(ask))
		}
		s := string(dialect.Put(nil, ask))
		none(t, "it can't be", s)
		none(t, "it can't be, and bytes behind", s+"\x00\x00\x00")
	}
}

func TestP12_1_GetOfWrongReaders(t *testing.T) {
	if got, ok := dialect.Get(nil); ok || got != nil {
		t.Errorf("of nil is read %s, %v", text(got), ok)
	}
	r := num.From("\x07\x03\x02\x12\x03\x02\x12")
	r.Uint(6)
	for range 3 {
		if got, ok := dialect.Get(r); ok || got != nil || !r.Bad() {
			t.Errorf("of a reader with which something is wrong is read %s, %v", text(got), ok)
		}
	}
}

// anyText is up to so many bytes of any kind that a Text can say, or of any kind at all.
func anyText(r *rand.Rand, most int, says bool) string {
	pieces := []string{"a", "b", "_", "9", " ", `"`, `\`, "\x00", "é", "\ufffd", "\U0001f600"}
	if !says {
		pieces = append(pieces, "\n", "\xff", "\x80")
	}
	var s string
	for range r.Intn(8) {
		s += strings.Repeat(pieces[r.Intn(len(pieces))], 1+r.Intn(1+r.Intn(60)))
	}
	if len(s) > most {
		return ""
	}
	return s
}

// anyTime is a time, often near to one at which a number gets a byte longer.
func anyTime(r *rand.Rand) int {
	n := 1<<r.Intn(40) + r.Intn(5) - 2
	if r.Intn(2) == 0 {
		return -n
	}
	return n
}

// anyAsk is a question that can be.
func anyAsk(r *rand.Rand) any {
	from, to := anyTime(r), anyTime(r)
	switch r.Intn(3) {
	case 0:
		var rows [][]string
		for range r.Intn(1 + r.Intn(65)) {
			var words []string
			for range r.Intn(1 + r.Intn(1+r.Intn(65))) {
				words = append(words, anyText(r, 1024, false))
			}
			rows = append(rows, words)
		}
		return tokens(from, to, rows...)
	case 1:
		var list []api.Matcher
		for range r.Intn(5) {
			name := "azAZ_"[r.Intn(5):][:1] + strings.Repeat("b0_Q"[r.Intn(4):][:1], r.Intn(20))
			list = append(list, api.Matcher{Name: name, Not: r.Intn(2) == 0, Value: anyText(r, 1024, true)})
		}
		return streams(from, to, list...)
	}
	return scans(from, to)
}

// What is put is read again to the same question, and nothing is left.
func TestP12_2_PutIsRead(t *testing.T) {
	r := rand.New(rand.NewSource(122))
	for range 3000 {
		ask := anyAsk(r)
		if !dialect.Good(ask) {
			t.Fatalf("%s can't be", text(ask))
		}
		reader := num.From(string(dialect.Put(nil, ask)))
		read(t, reader, ask)
		if !reader.End() {
			t.Errorf("%s: something is left", text(ask))
		}
	}
}

// What is put is read again, whatever it is, just if it can be.
func TestP12_2_WhatCanBeIsRead(t *testing.T) {
	for _, c := range asks() {
		r := num.From(string(dialect.Put(nil, c.ask)))
		got, ok := dialect.Get(r)
		if ok != dialect.Good(c.ask) || ok && (!same(got, c.ask) || !r.End()) {
			t.Errorf("%s is read as %s, %v, End is %v", text(c.ask), text(got), ok, r.End())
		}
	}
}

// How many rows, words, bytes and matchers there are, and times, at which a number gets a byte longer, and their neighbours.
func TestP12_2_SizesAreRead(t *testing.T) {
	check := func(ask any) {
		t.Helper()
		r := num.From(string(dialect.Put(nil, ask)))
		read(t, r, ask)
		if !r.End() {
			t.Errorf("%s: something is left", text(ask))
		}
	}
	for n := range 65 {
		check(tokens(n, -n, make([][]string, n)...))
		check(tokens(n, -n, make([]string, n)))
		check(tokens(n, -n, slices.Repeat([][]string{slices.Repeat([]string{"a"}, n)}, n)...))
	}
	for n := range 1025 {
		check(tokens(n, -n, row(xs(n)), nil, row("", strings.Repeat("\xff", n))))
		check(streams(n, -n, is("a", xs(n)), isnt("b", strings.Repeat("é", n/2))))
	}
	for n := range 5 {
		for size := 1; size <= 20; size++ {
			check(streams(n, size, slices.Repeat([]api.Matcher{isnt(xs(size), "")}, n)...))
		}
	}
	for bit := range 41 {
		for near := range 5 {
			if n := 1<<bit + near - 2; n <= api.MaxTime {
				check(scans(n, -n))
				check(tokens(-n, n))
				check(streams(n, n))
			}
		}
	}
	check(tokens(0, 1, slices.Repeat([][]string{slices.Repeat([]string{xs(1024)}, 64)}, 64)...))
}

// Two questions have the same bytes just if they are the same.
func TestP12_2_BytesTellQuestions(t *testing.T) {
	var list []any
	for _, from := range []int{-1, 0, 1} {
		list = append(list, scans(from, 1), scans(1, from))
		for _, rows := range [][][]string{nil, {nil}, {nil, nil}, {{""}}, {{"", ""}}, {{""}, {""}}, {{"a"}}, {{"a", "b"}}, {{"b", "a"}}, {{"ab"}}, {{"a"}, {"b"}}, {{"a", "a"}}, {{"\x01a"}}, {nil, {"a"}}, {{"a"}, nil}} {
			list = append(list, tokens(from, 1, rows...), tokens(1, from, rows...))
		}
		for _, match := range [][]api.Matcher{nil, {is("a", "")}, {isnt("a", "")}, {is("a", "x")}, {is("ax", "")}, {is("a", "x"), is("b", "")}, {is("b", ""), is("a", "x")}, {is("a", "\x01")}, {isnt("a", "x")}, {is("a", "x"), is("a", "x")}} {
			list = append(list, streams(from, 1, match...), streams(1, from, match...))
		}
	}
	for _, a := range list {
		for _, b := range list {
			if got, want := string(dialect.Put(nil, a)) == string(dialect.Put(nil, b)), same(a, b); got != want {
				t.Errorf("%s and %s have the same bytes: %v", text(a), text(b), got)
			}
		}
	}
}

// No bytes are read to their end but those that are put for what is read.
func TestP12_2_OnlyPutBytesAreRead(t *testing.T) {
	check := func(s string) {
		r := num.From(s)
		if got, ok := dialect.Get(r); ok && r.End() && (!dialect.Good(got) || string(dialect.Put(nil, got)) != s) {
			t.Fatalf("%.200q is read as %s", s, text(got))
		}
	}
	for _, c := range spelt() {
		if len(c.bytes) > 100 {
			continue
		}
		for at := range c.bytes {
			for one := range 256 {
				check(c.bytes[:at] + string([]byte{byte(one)}) + c.bytes[at+1:])
				check(c.bytes[:at] + string([]byte{byte(one)}) + c.bytes[at:])
			}
			check(c.bytes[:at] + c.bytes[at+1:])
		}
	}
	r := rand.New(rand.NewSource(123))
	for range 200000 {
		b := []byte{byte(1 + r.Intn(3))}
		for range r.Intn(14) {
			b = append(b, "\x00\x01\x02\x03a\x80\x81\xff\n"[r.Intn(9)])
		}
		check(string(b))
	}
}
