package scan_test

import (
	"errors"
	"fmt"
	"math"
	"slices"
	"strconv"
	"strings"
	"testing"

	"magpie/api"
	"magpie/record"
	"magpie/scan"
)

// entry is one of that time and line, with labels: a name, its value, and so on.
func entry(at int, line string, labels ...string) api.Entry {
	e := api.Entry{At: at, Line: line}
	for i := 0; i < len(labels); i += 2 {
		e.Labels = append(e.Labels, api.Label{Name: labels[i], Value: labels[i+1]})
	}
	return e
}

func times(from, to int) api.ScanAsk { return api.ScanAsk{From: from, To: to} }

// always is a question of all times.
func always() api.ScanAsk { return times(-api.MaxTime, api.MaxTime) }

func xs(n int) string { return strings.Repeat("x", n) }

// same: field by field, whether two entries are the same.
func same(a, b api.Entry) bool {
	return a.At == b.At && a.Line == b.Line && slices.Equal(a.Labels, b.Labels)
}

func allSame(a, b []api.Entry) bool { return slices.EqualFunc(a, b, same) }

// text tells entries.
func text(list []api.Entry) string {
	var out []string
	for _, e := range list {
		s := strconv.Itoa(e.At)
		for _, l := range e.Labels {
			s += " " + l.Name + "=" + strconv.Quote(l.Value)
		}
		out = append(out, s+": "+strconv.Quote(e.Line))
	}
	return fmt.Sprintf("%d entries (%.300s)", len(list), strings.Join(out, "; "))
}

// copied is an entry that shares no memory with another one.
func copied(e api.Entry) api.Entry {
	e.Labels = slices.Clone(e.Labels)
	e.Line = strings.Clone(e.Line)
	return e
}

// engine is one to which entries were added, one behind the other.
func engine(list ...api.Entry) *scan.Engine {
	g := scan.New()
	for _, e := range list {
		g.Add(copied(e))
	}
	return g
}

// asked tells a question.
func asked(ask any) string { return fmt.Sprintf("%.300s", fmt.Sprintf("%T %+v", ask, ask)) }

// asks asks whether an engine answers those, and that; else its test ends, since what is wrong is wrong of many questions.
func asks(t *testing.T, g *scan.Engine, ask any, after api.Mark, desc bool, n int, want []api.Entry, all bool) {
	t.Helper()
	if got, is, err := g.Ask(ask, after, desc, n); !allSame(got, want) || is != all || err != api.OK {
		t.Fatalf("%s behind %v, %s, %v, %d: %s, %v, error %d; not %s, %v", asked(ask), after.Has, text([]api.Entry{after.Entry}), desc, n, text(got), is, err, text(want), all)
	}
}

// has asks whether an engine has those entries, which are in their order.
func has(t *testing.T, g *scan.Engine, want ...api.Entry) {
	t.Helper()
	if n := g.Len(); n != len(want) {
		t.Errorf("%d entries, not %d", n, len(want))
	}
	asks(t, g, always(), api.Mark{}, false, math.MaxInt, want, true)
}

// fails asks whether an engine answers nothing but that error, behind any mark, either way round, of how many it may be.
func fails(t *testing.T, g *scan.Engine, ask any, want api.Errno) {
	t.Helper()
	for _, after := range []api.Mark{{}, {Has: true}, {Has: true, Entry: entry(1, "a")}, {Has: true, Entry: entry(math.MaxInt, "\n", "", xs(300))}} {
		for _, desc := range []bool{false, true} {
			for _, n := range []int{math.MinInt, -1, 0, 1, 50, math.MaxInt} {
				if list, all, err := g.Ask(ask, after, desc, n); len(list) != 0 || all || err != want {
					t.Errorf("%s: %s, %v, error %d, not %d", asked(ask), text(list), all, err, want)
				}
			}
		}
	}
}

// Asked from 2 to 3: all entries of these times, whatever they are.
func TestP15_1_Example(t *testing.T) {
	one, two, three := entry(2, ""), entry(2, "\x00\xff", "app", "a"), entry(3, "b c", "env", "")
	g := engine(three, entry(1, "b"), two, entry(4, "b", "app", "a"), one)
	asks(t, g, times(2, 3), api.Mark{}, false, 9, []api.Entry{one, two, three}, true)
	asks(t, g, times(2, 3), api.Mark{}, true, 2, []api.Entry{three, two}, false)
}

// canBe are entries that can be, each just so.
var canBe = []api.Entry{
	{}, entry(0, "a"), entry(-api.MaxTime, ""), entry(api.MaxTime, "a"), entry(5, ""), entry(5, xs(200)), entry(5, strings.Repeat("a ", 100)), entry(5, strings.Repeat("é", 100)), entry(5, "\x00\xff\r\t a"), entry(5, strings.Repeat("\x00", 200)), entry(5, strings.Repeat("\xff", 128)), entry(5, "\u2028\ufffd\xc3"),
	entry(5, "a", "a", ""), entry(5, "a", "_", "x"), entry(5, "a", xs(20), xs(20)), entry(5, "a", "a", "\n\xff"), entry(5, "", "a", "\x00\x80"), entry(5, "b", "a", "", "b", "", "c", ""), entry(5, "a", "A", "1", "a", "2", "aa", "3", "b", "4"), entry(-1, xs(200), "a"+xs(19), xs(20), "b"+xs(19), xs(20), "c"+xs(19), xs(20), "d"+xs(19), xs(20)),
}

// cantBe are entries that can't.
var cantBe = []api.Entry{
	entry(-api.MaxTime-1, "a"), entry(api.MaxTime+1, "a"), entry(math.MinInt, "a"), entry(math.MaxInt, "a"), entry(5, "\n"), entry(5, "a\n"), entry(5, "\na"), entry(5, "a\nb"), entry(5, xs(201)), entry(5, xs(5000)), entry(5, strings.Repeat("a ", 100)+"a"),
	entry(5, "a", "", "x"), entry(5, "a", "9", "x"), entry(5, "a", "a-b", "x"), entry(5, "a", "é", "x"), entry(5, "a", xs(21), "x"), entry(5, "a", "a", xs(21)), entry(5, "a", "b", "x", "a", "x"), entry(5, "a", "a", "x", "a", "x"), entry(5, "a", "a", "x", "a", "y"),
	entry(5, "a", "a", "", "b", "", "c", "", "d", "", "e", ""), entry(5, "a\n", "app", "x"), entry(api.MaxTime+1, "a", "app", "x"),
}

func TestP15_1_AddOfWhatCanBe(t *testing.T) {
	for _, e := range canBe {
		has(t, engine(e), e)
	}
	has(t, engine(canBe...), record.Sort(false, canBe...)...)
}

// Of an entry that can't be nothing is done: it isn't told, nor does it change what is told of others that were added ahead and behind.
func TestP15_1_AddOfWhatCantBe(t *testing.T) {
	here := []api.Entry{entry(5, "a"), entry(5, "a", "app", "x"), entry(6, "b")}
	for _, e := range cantBe {
		has(t, engine(e))
		has(t, engine(here[0], e, here[1], e, here[2], e), here...)
		g := engine(e, here[1], e, here[0], e, here[2], e)
		has(t, g, here...)
		asks(t, g, times(5, 5), api.Mark{}, false, 9, here[:2], true)
		asks(t, g, times(6, 6), api.Mark{}, true, 9, here[2:], true)
	}
	has(t, engine(cantBe...))
	has(t, engine(slices.Concat(cantBe, canBe, cantBe)...), record.Sort(false, canBe...)...)
}

// An entry counts once, however often it was added, at once or later, its labels being none or an empty list.
func TestP15_1_AddTwice(t *testing.T) {
	for _, e := range canBe {
		others := slices.DeleteFunc(slices.Clone(canBe), func(o api.Entry) bool { return same(o, e) })
		has(t, engine(e, e), e)
		has(t, engine(slices.Repeat([]api.Entry{e}, 50)...), e)
		has(t, engine(slices.Concat([]api.Entry{e}, others, []api.Entry{e})...), record.Sort(false, canBe...)...)
		has(t, engine(slices.Concat([]api.Entry{e, e}, others, others, []api.Entry{e, e})...), record.Sort(false, canBe...)...)
	}
	none, empty := entry(5, "a"), api.Entry{At: 5, Line: "a", Labels: []api.Label{}}
	has(t, engine(none, empty, none), none)
	has(t, engine(empty, none, empty), none)
}

// Entries that are the same but for one thing are several: of one time, of one line, of one time and line with other labels.
func TestP15_1_AlikeIsntTheSame(t *testing.T) {
	list := []api.Entry{
		entry(4, "a"), entry(5, ""), entry(5, "\x00"), entry(5, "a"), entry(5, "a "), entry(5, "a a"), entry(5, "aa"), entry(5, "\ufffd"), entry(5, "\xfe"), entry(5, "\xff"),
		entry(5, "a", "a", ""), entry(5, "a", "a", "", "b", ""), entry(5, "a", "a", "\x00"), entry(5, "a", "a", "x"), entry(5, "a", "a", "xy"), entry(5, "a", "ax", ""), entry(5, "a", "b", ""), entry(5, "a", "b", "x"), entry(5, "b", "b", "x"), entry(6, "a"), entry(6, "a", "b", "x"),
	}
	for i, one := range list {
		for _, two := range list[i+1:] {
			has(t, engine(one, two), one, two)
			has(t, engine(two, one, two, one), one, two)
		}
	}
	has(t, engine(list...), list...)
	has(t, engine(turned(list, true)...), list...)
}

func TestP15_1_LenGrows(t *testing.T) {
	g := scan.New()
	for i := range 300 {
		if g.Len() != i {
			t.Fatalf("%d, not %d", g.Len(), i)
		}
		labels := func(i int) []string { return []string{"app", strconv.Itoa(i % 4)} }
		g.Add(entry(i, "a", labels(i)...))
		g.Add(entry(i/2, "a", labels(i/2)...))
		g.Add(entry(i, "a\n", labels(i)...))
	}
}

// mine, alike and holder are other types, though they look like questions.
type mine api.ScanAsk

func (mine) Error() string { return "mine" }

type alike struct {
	From int
	To   int
}

type holder struct{ api.ScanAsk }

// otherKinds are questions of the other kinds, among them such that can't be, and values that are no question.
func otherKinds() []any {
	a := times(1, 9)
	var none *api.ScanAsk
	var boxed any = a
	return []any{
		api.TokenAsk{}, api.TokenAsk{From: 1, To: 9}, api.TokenAsk{From: 1, To: 9, All: [][]string{{"a"}}}, api.StreamAsk{}, api.StreamAsk{From: 1, To: 9}, api.StreamAsk{From: 9, To: 1, Match: []api.Matcher{{Name: "a", Value: "x"}}},
		api.TokenAsk{From: api.MaxTime + 1}, api.TokenAsk{All: make([][]string, 65)}, api.TokenAsk{All: [][]string{{xs(1025)}}}, api.StreamAsk{To: math.MaxInt}, api.StreamAsk{From: -api.MaxTime - 1}, api.StreamAsk{Match: make([]api.Matcher, 5)}, api.StreamAsk{Match: []api.Matcher{{Name: "9"}}},
		nil, &a, none, &boxed, holder{a}, &holder{a}, mine(a), alike(a), []api.ScanAsk{a}, [1]api.ScanAsk{a}, []any{a}, func() {}, make(chan int), map[string]int{}, struct{}{}, errors.New("a"),
		0, 3, -1, uint(3), 1.5, 'a', true, "", "a", []string{"a"}, []int{1, 9}, [2]int{1, 9}, api.Query{From: 1, To: 9}, api.Request{Ask: a}, api.Entry{}, api.Mark{}, api.OK, scan.New(),
	}
}

// wrongOnes are questions of this kind that can't be.
func wrongOnes() []any {
	const most = api.MaxTime
	var out []any
	for _, n := range []int{most + 1, -most - 1, most * 2, -most * 2, math.MaxInt32 << 32, math.MaxInt, math.MinInt, math.MinInt + 1} {
		for _, other := range []int{0, 5, -5, most, -most, most + 1, -most - 1, math.MaxInt, math.MinInt} {
			out = append(out, times(n, other), times(other, n))
		}
	}
	return out
}

func TestP15_1_OfOtherKinds(t *testing.T) {
	for _, g := range []*scan.Engine{scan.New(), engine(entry(1, "a")), engine(rising...)} {
		for _, ask := range otherKinds() {
			fails(t, g, ask, api.ErrKind)
		}
	}
}

func TestP15_1_OfWhatCantBe(t *testing.T) {
	for _, g := range []*scan.Engine{scan.New(), engine(entry(1, "a")), engine(rising...)} {
		for _, ask := range wrongOnes() {
			fails(t, g, ask, api.ErrArg)
		}
	}
}

// Of a nil engine it is ErrNil whatever it is asked; nothing is added to it.
func TestP15_1_NilEngine(t *testing.T) {
	var g *scan.Engine
	for _, ask := range slices.Concat(otherKinds(), wrongOnes(), []any{always(), times(1, 9), times(9, 1), times(0, 0)}) {
		fails(t, g, ask, api.ErrNil)
	}
	for _, e := range slices.Concat(canBe, cantBe) {
		g.Add(e)
		if g.Len() != 0 {
			t.Errorf("%d entries", g.Len())
		}
	}
	fails(t, g, always(), api.ErrNil)
}

func TestP15_1_EmptyEngine(t *testing.T) {
	for _, g := range []*scan.Engine{scan.New(), engine(cantBe...)} {
		has(t, g)
		for _, q := range questions() {
			for _, n := range []int{math.MinInt, -1, 0, 1, 50, math.MaxInt} {
				for _, after := range []api.Mark{{}, {Has: true}, behind(rising[3])} {
					asks(t, g, q.ask, after, false, n, nil, true)
					asks(t, g, q.ask, after, true, n, nil, true)
				}
			}
		}
	}
}

// What can't be asked changes nothing.
func TestP15_1_ErrorsChangeNothing(t *testing.T) {
	g := engine(rising...)
	for _, ask := range slices.Concat(otherKinds(), wrongOnes()) {
		g.Ask(ask, behind(rising[2]), true, 3)
		has(t, g, rising...)
		asks(t, g, times(2, 9), api.Mark{}, false, 9, at([]int{11, 12, 13}), true)
	}
}
