package dialect_test

import (
	"math"
	"slices"
	"strings"
	"testing"

	"magpie/api"
	"magpie/dialect"
	"magpie/num"
)

// handed is what is handed in: questions and an entry, and the whole of their lists, with the room behind, in which something stands that isn't theirs.
type handed struct {
	tokens  api.TokenAsk
	streams api.StreamAsk
	e       api.Entry
	rows    [][]string
	words   []string
	match   []api.Matcher
	labels  []api.Label
	b       []byte
}

// spare is such a one, in memory of its own; its first two rows lie one behind the other, the last one is the first once more.
func spare() handed {
	h := handed{
		words:  []string{"b", "a", "c", "far off"},
		match:  []api.Matcher{is("b", "y"), isnt("a", "z"), is("c", ""), is("far", "off")},
		labels: []api.Label{{Name: "a", Value: "x"}, {Name: "b", Value: "y"}, {Name: "far", Value: "off"}},
		b:      []byte("begins far off"),
	}
	h.rows = [][]string{h.words[:2], h.words[2:3], h.words[:2], {"far off"}}
	h.tokens = api.TokenAsk{From: 1, To: 9, All: h.rows[:3]}
	h.streams = api.StreamAsk{From: 1, To: 9, Match: h.match[:3]}
	h.e = api.Entry{At: 5, Labels: h.labels[:2], Line: "c a"}
	return h
}

// equal: whether two are the same in all, room too.
func equal(a, b handed) bool {
	return same(a.tokens, b.tokens) && same(a.streams, b.streams) && a.e.At == b.e.At && a.e.Line == b.e.Line && slices.Equal(a.e.Labels, b.e.Labels) &&
		slices.EqualFunc(a.rows, b.rows, slices.Equal) && slices.Equal(a.words, b.words) && slices.Equal(a.match, b.match) && slices.Equal(a.labels, b.labels) && string(a.b) == string(b.b)
}

// asking are the ways in which a question is answered of itself.
func asking() map[string]func(h handed) (api.TokenAsk, api.StreamAsk) {
	return map[string]func(h handed) (api.TokenAsk, api.StreamAsk){
		"As": func(h handed) (api.TokenAsk, api.StreamAsk) {
			a, _ := dialect.As[api.TokenAsk](h.tokens)
			b, _ := dialect.As[api.StreamAsk](h.streams)
			return a, b
		},
		"Must": func(h handed) (api.TokenAsk, api.StreamAsk) {
			return dialect.Must[api.TokenAsk](h.tokens), dialect.Must[api.StreamAsk](h.streams)
		},
		"As of any": func(h handed) (api.TokenAsk, api.StreamAsk) {
			a, _ := dialect.As[any](h.tokens)
			b, _ := dialect.As[any](h.streams)
			return a.(api.TokenAsk), b.(api.StreamAsk)
		},
		"Must of any": func(h handed) (api.TokenAsk, api.StreamAsk) {
			return dialect.Must[any](h.tokens).(api.TokenAsk), dialect.Must[any](h.streams).(api.StreamAsk)
		},
		"Get": func(h handed) (api.TokenAsk, api.StreamAsk) {
			r := num.From(string(dialect.Put(dialect.Put(nil, h.tokens), h.streams)))
			a, _ := dialect.Get(r)
			b, _ := dialect.Get(r)
			return a.(api.TokenAsk), b.(api.StreamAsk)
		},
	}
}

// What is handed in stays as it is, room too; each call is looked at alone, so that none sets right what another one did.
func TestP12_1_HandedInIsKept(t *testing.T) {
	// Put may write into the room behind the bytes that it is handed, so these have none.
	calls := map[string]func(h handed, ask any){
		"Kind":    func(h handed, ask any) { dialect.Kind(ask) },
		"Times":   func(h handed, ask any) { dialect.Times(ask) },
		"Good":    func(h handed, ask any) { dialect.Good(ask) },
		"Keeps":   func(h handed, ask any) { dialect.Keeps(ask, h.e) },
		"Put":     func(h handed, ask any) { dialect.Put(nil, ask) },
		"Behind":  func(h handed, ask any) { dialect.Put(h.b[:6:6], ask) },
		"Another": func(h handed, ask any) { dialect.As[api.ScanAsk](ask) },
		"Panic":   func(h handed, ask any) { mustPanics[api.ScanAsk](ask) },
	}
	for name, call := range asking() {
		calls[name] = func(h handed, _ any) { call(h) }
	}
	for name, call := range calls {
		h := spare()
		call(h, h.tokens)
		call(h, h.streams)
		if !equal(h, spare()) {
			t.Errorf("behind %s: %v, not %v", name, h, spare())
		}
	}
}

// cells are the places of a list, room too.
func cells[T any](list []T) []*T {
	var out []*T
	room := list[:cap(list)]
	for i := range room {
		out = append(out, &room[i])
	}
	return out
}

// The lists of an answer are new memory: they share none with what was handed in, with an earlier answer, or with one another.
func TestP12_1_AnswersAreNewMemory(t *testing.T) {
	h := spare()
	seen := map[any]string{}
	look := func(why string, a api.TokenAsk, b api.StreamAsk) {
		t.Helper()
		var places []any
		for _, place := range cells(a.All) {
			places = append(places, place)
		}
		for _, row := range a.All {
			for _, place := range cells(row) {
				places = append(places, place)
			}
		}
		for _, place := range cells(b.Match) {
			places = append(places, place)
		}
		for _, place := range places {
			if seen[place] != "" {
				t.Errorf("%s: in memory of %s", why, seen[place])
			}
			seen[place] = why
		}
	}
	look("what was handed in", api.TokenAsk{All: [][]string{h.words}}, h.streams)
	for _, place := range cells(h.rows) {
		seen[place] = "the rows that were handed in"
	}
	for range 2 {
		for name, call := range asking() {
			a, b := call(h)
			look(name, a, b)
		}
	}
}

// ruin writes into all lists of two questions, room too.
func ruin(a api.TokenAsk, b api.StreamAsk) {
	for _, row := range a.All {
		for _, place := range cells(row) {
			*place = "ruined"
		}
	}
	for _, place := range cells(a.All) {
		*place = nil
	}
	for _, place := range cells(b.Match) {
		*place = is("ruined", "ruined")
	}
}

// What is written into an answer isn't seen in what was handed in, nor in another answer; what is written into what was handed in isn't seen in an answer.
func TestP12_1_WhatIsWrittenIsntSeen(t *testing.T) {
	for name, call := range asking() {
		h := spare()
		early, other := call(h)
		ruin(call(h))
		if !equal(h, spare()) {
			t.Errorf("%s: what was handed in is %v", name, h)
		}
		ruin(h.tokens, h.streams)
		if !same(early, spare().tokens) || !same(other, spare().streams) {
			t.Errorf("%s: an early answer is %s, %s", name, text(early), text(other))
		}
	}
}

// Two rows of an answer that were one list in what was handed in are two.
func TestP12_1_RowsOfAnAnswerAreTheirOwn(t *testing.T) {
	h := spare()
	got := dialect.Must[api.TokenAsk](h.tokens)
	got.All[0][0] = "x"
	_ = append(got.All[0], "y")
	if !same(got, tokens(1, 9, row("x", "a"), row("c"), row("b", "a"))) {
		t.Error(text(got))
	}
}

// Each call asks what it is handed then, and keeps nothing of what it was handed ahead.
func TestP12_1_HandedInIsntKept(t *testing.T) {
	h := spare()
	asks := func(words, labels bool) {
		t.Helper()
		if dialect.Keeps(h.tokens, h.e) != words || dialect.Keeps(h.streams, h.e) != labels {
			t.Errorf("%v: not %v, %v", h, words, labels)
		}
	}
	asks(true, true)
	h.words[2] = "d"
	asks(false, true)
	h.e.Line = "d-b"
	asks(true, true)
	h.labels[1].Value = "x"
	asks(true, false)
	h.match[0].Not = true
	asks(true, true)
	h.match[1].Name = "none"
	asks(true, true)
	h.match[2].Value = "z"
	asks(true, false)
	h.words[0] = xs(1025)
	h.match[0].Name = ""
	if dialect.Good(h.tokens) || dialect.Good(h.streams) {
		t.Error("they can be")
	}
}

// The bytes of a question are those that it had when it was put.
func TestP12_1_PutKeepsNothing(t *testing.T) {
	h := spare()
	b := dialect.Put(nil, h.tokens)
	b = dialect.Put(b, h.streams)
	was := string(b)
	ruin(h.tokens, h.streams)
	r := num.From(string(b))
	if string(b) != was {
		t.Errorf("%q, not %q", b, was)
	}
	read(t, r, spare().tokens)
	read(t, r, spare().streams)
}

// Of values of which nothing is promised the calls end, and of such readers.
func TestP12_1_OfOthersCallsEnd(t *testing.T) {
	list := nobodys()
	for _, c := range asks() {
		list = append(list, c.ask)
	}
	list = append(list, tokens(math.MinInt, math.MaxInt, slices.Repeat([][]string{slices.Repeat([]string{"a"}, 300)}, 300)...), streams(0, 1, slices.Repeat([]api.Matcher{{}}, 1<<16)...))
	for _, ask := range list {
		for _, b := range [][]byte{nil, {}, []byte("some")} {
			dialect.Put(b, ask)
		}
		dialect.Keeps(ask, api.Entry{At: math.MinInt, Labels: make([]api.Label, 300), Line: strings.Repeat("a ", 300)})
	}
	for _, s := range []string{"\x01\x00\x00\x40\x40\x80\x08", "\x01\x00\x00" + strings.Repeat("\x40", 100), "\x02\x00\x00\x04", strings.Repeat("\xff", 1<<16), strings.Repeat("\x01", 1<<16)} {
		r := num.From(s)
		for range 100 {
			dialect.Get(r)
		}
	}
}
