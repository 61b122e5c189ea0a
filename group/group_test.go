package group_test

import (
	"errors"
	"fmt"
	"math"
	"slices"
	"strconv"
	"strings"
	"testing"

	"magpie/api"
	"magpie/group"
	"magpie/index"
	"magpie/record"
	"magpie/scan"
	"magpie/stream"
)

// The interface has just these calls: what has them is an engine, whosever it is.
type fake struct{}

func (fake) Add(api.Entry) {}
func (fake) Len() int      { return 7 }
func (fake) Ask(any, api.Mark, bool, int) ([]api.Entry, bool, api.Errno) {
	return nil, true, api.OK
}

var _ = []group.Engine{fake{}, &fake{}, index.New(), stream.New(), scan.New()}

// entry is one of that time and line, with labels: a name, its value, and so on.
func entry(at int, line string, labels ...string) api.Entry {
	e := api.Entry{At: at, Line: line}
	for i := 0; i < len(labels); i += 2 {
		e.Labels = append(e.Labels, api.Label{Name: labels[i], Value: labels[i+1]})
	}
	return e
}

func xs(n int) string { return strings.Repeat("x", n) }

// same: field by field, whether two entries are the same.
func same(a, b api.Entry) bool {
	return a.At == b.At && a.Line == b.Line && slices.Equal(a.Labels, b.Labels)
}

func allSame(a, b []api.Entry) bool { return slices.EqualFunc(a, b, same) }

// text tells entries.
func text(list []api.Entry) string {
	var out []string
	for _, e := range list {
		s := strconv.Itoa(e.At)
		for _, l := range e.Labels {
			s += " " + l.Name + "=" + strconv.Quote(l.Value)
		}
		out = append(out, s+": "+strconv.Quote(e.Line))
	}
	return fmt.Sprintf("%d entries (%.300s)", len(list), strings.Join(out, "; "))
}

// asked tells a question.
func asked(ask any) string { return fmt.Sprintf("%.300s", fmt.Sprintf("%T %+v", ask, ask)) }

// copied is an entry that shares no memory with another one.
func copied(e api.Entry) api.Entry {
	e.Labels = slices.Clone(e.Labels)
	e.Line = strings.Clone(e.Line)
	return e
}

func copies(list []api.Entry) []api.Entry {
	var out []api.Entry
	for _, e := range list {
		out = append(out, copied(e))
	}
	return out
}

// kindsOf are all kinds.
var kindsOf = []int{api.Tokens, api.Streams, api.Scans}

// rows are all rows of kinds that a group can be of.
func rows() [][]int {
	var out [][]int
	for _, a := range kindsOf {
		out = append(out, []int{a})
		for _, b := range kindsOf {
			out = append(out, []int{a, b})
			for _, c := range kindsOf {
				out = append(out, []int{a, b, c})
			}
		}
	}
	return out
}

// rowsOf are those of so many.
func rowsOf(n int) [][]int {
	return slices.DeleteFunc(rows(), func(kinds []int) bool { return len(kinds) != n })
}

// made is a group of those kinds; else its test ends.
func made(t *testing.T, kinds ...int) *group.Group {
	t.Helper()
	g, err := group.New(kinds...)
	if g == nil || err != api.OK {
		t.Fatalf("%v: error %d", kinds, err)
	}
	return g
}

// takes asks whether a group takes entries, one behind the other.
func takes(t *testing.T, g *group.Group, list ...api.Entry) {
	t.Helper()
	for _, e := range list {
		is(t, "Take", g.Take(copied(e)), api.OK)
	}
}

// is asks whether a call answers that error; else its test ends, since what comes behind is wrong, too.
func is(t *testing.T, call string, got, want api.Errno) {
	t.Helper()
	if got != want {
		t.Fatalf("%s: error %d, not %d", call, got, want)
	}
}

// whole is a question of a kind that asks for all entries from one time to another.
func whole(kind, from, to int) any {
	switch kind {
	case api.Tokens:
		return api.TokenAsk{From: from, To: to}
	case api.Streams:
		return api.StreamAsk{From: from, To: to}
	}
	return api.ScanAsk{From: from, To: to}
}

// always is one of all times.
func always(kind int) any { return whole(kind, -api.MaxTime, api.MaxTime) }

// answers asks whether a replica answers those, and that; else its test ends.
func answers(t *testing.T, g *group.Group, i int, ask any, after api.Mark, desc bool, n int, want []api.Entry, all bool) {
	t.Helper()
	if got, is, err := g.Ask(i, ask, after, desc, n); !allSame(got, want) || is != all || err != api.OK {
		t.Fatalf("replica %d, %s behind %v, %s, %v, %d: %s, %v, error %d; not %s, %v", i, asked(ask), after.Has, text([]api.Entry{after.Entry}), desc, n, text(got), is, err, text(want), all)
	}
}

// marks are none, though an entry stands beside, and some that can be an entry of a log, or can't.
func marks() []api.Mark {
	return []api.Mark{{}, {Entry: entry(1, "a")}, {Has: true}, behind(entry(1, "a")), behind(entry(math.MaxInt, "\n", "", xs(300)))}
}

// behind is the mark of an entry.
func behind(e api.Entry) api.Mark { return api.Mark{Has: true, Entry: e} }

// fails asks whether a replica answers nothing but that error, behind any mark, either way round, of how many it may be.
func fails(t *testing.T, g *group.Group, i int, ask any, want api.Errno) {
	t.Helper()
	for _, after := range marks() {
		for _, desc := range []bool{false, true} {
			for _, n := range []int{math.MinInt, -1, 0, 1, 50, math.MaxInt} {
				if list, all, err := g.Ask(i, ask, after, desc, n); len(list) != 0 || all || err != want {
					t.Fatalf("replica %d, %s: %s, %v, error %d, not %d", i, asked(ask), text(list), all, err, want)
				}
			}
		}
	}
}

// noPlace are numbers of replicas that there aren't, of a group of so many.
func noPlace(size int) []int {
	return []int{-1, -2, -size, -size - 1, size, size + 1, size + 7, api.MaxReplicas, api.MaxReplicas + 1, 1 << 32, -1 << 32, 1<<32 + 1, math.MaxInt32, math.MinInt32, math.MaxInt, math.MinInt, math.MinInt + 1}
}

// shadow is what a group must have, by the chapter's words alone.
type shadow struct {
	kinds  []int
	up     []bool
	epochs []int
	log    []api.Entry
}

// shadowOf is that of a new group.
func shadowOf(kinds ...int) *shadow {
	return &shadow{kinds: slices.Clone(kinds), up: slices.Repeat([]bool{true}, len(kinds)), epochs: slices.Repeat([]int{1}, len(kinds))}
}

// looks asks whether a group is as it must be, in all that can be asked of it quickly; else its test ends.
func (s *shadow) looks(t *testing.T, why string, g *group.Group) {
	t.Helper()
	if g.Size() != len(s.kinds) || !allSame(g.Log(), s.log) {
		t.Fatalf("%s: %d replicas, log %s; not %d, %s", why, g.Size(), text(g.Log()), len(s.kinds), text(s.log))
	}
	want := record.Sort(false, s.log...)
	for i, kind := range s.kinds {
		if g.Kind(i) != kind || g.Up(i) != s.up[i] || g.Epoch(i) != s.epochs[i] {
			t.Fatalf("%s: replica %d: kind %d, %v, epoch %d; not %d, %v, %d", why, i, g.Kind(i), g.Up(i), g.Epoch(i), kind, s.up[i], s.epochs[i])
		}
		list, all, err := g.Ask(i, always(kind), api.Mark{}, false, math.MaxInt)
		if s.up[i] && (!allSame(list, want) || !all || err != api.OK) {
			t.Fatalf("%s: replica %d: %s, %v, error %d; not %s", why, i, text(list), all, err, text(want))
		}
		if !s.up[i] && (len(list) > 0 || all || err != api.ErrDown) {
			t.Fatalf("%s: replica %d, which is down: %s, %v, error %d", why, i, text(list), all, err)
		}
	}
}

// none asks whether a group tells nothing of replicas that there aren't.
func none(t *testing.T, g *group.Group) {
	t.Helper()
	for _, i := range noPlace(g.Size()) {
		if g.Kind(i) != 0 || g.Up(i) || g.Epoch(i) != 0 {
			t.Errorf("%d: kind %d, %v, epoch %d", i, g.Kind(i), g.Up(i), g.Epoch(i))
		}
		is(t, "Crash", g.Crash(i), api.ErrNone)
		is(t, "Restart", g.Restart(i), api.ErrNone)
		for _, kind := range kindsOf {
			fails(t, g, i, always(kind), api.ErrNone)
		}
	}
}

// A replica that was down while an entry was taken has it behind its Restart.
func TestP16_1_Example(t *testing.T) {
	a, b := entry(1, "a"), entry(2, "b")
	for i, kind := range kindsOf {
		g := made(t, kindsOf...)
		takes(t, g, a)
		is(t, "Crash", g.Crash(i), api.OK)
		takes(t, g, b)
		fails(t, g, i, always(kind), api.ErrDown)
		is(t, "Restart", g.Restart(i), api.OK)
		answers(t, g, i, always(kind), api.Mark{}, false, 9, []api.Entry{a, b}, true)
		answers(t, g, i, whole(kind, 2, 9), api.Mark{}, false, 9, []api.Entry{b}, true)
	}
}

// makesOf asks whether an engine is an empty one of a kind, that takes entries as such a one does.
func makesOf(t *testing.T, kind int, e group.Engine) {
	t.Helper()
	if e == nil || e.Len() != 0 {
		t.Fatalf("kind %d: not an empty engine", kind)
	}
	for _, want := range [][]api.Entry{nil, {entry(1, "a")}} {
		for _, other := range kindsOf {
			list, all, err := e.Ask(always(other), api.Mark{}, false, 9)
			if other == kind && (!allSame(list, want) || !all || err != api.OK) || other != kind && (len(list) > 0 || all || err != api.ErrKind) {
				t.Errorf("kind %d, asked as %d: %s, %v, error %d", kind, other, text(list), all, err)
			}
		}
		for range 3 {
			e.Add(entry(1, "a"))
			e.Add(entry(1, "a\n"))
		}
		if e.Len() != 1 {
			t.Errorf("kind %d: %d entries", kind, e.Len())
		}
	}
}

func TestP16_1_Make(t *testing.T) {
	for range 3 {
		for _, kind := range kindsOf {
			makesOf(t, kind, group.Make(kind))
		}
	}
	makesOf(t, 1, group.Make(1))
	makesOf(t, 2, group.Make(2))
	makesOf(t, 3, group.Make(3))
}

// noKind are numbers that are no kind.
var noKind = []int{0, -1, -2, -3, 4, 5, 6, 7, 8, 100, 255, 256, 257, 1<<32 + 1, 1<<32 + 3, 1 << 32, -1 << 32, math.MaxInt32, math.MinInt32, math.MaxInt, math.MinInt, math.MinInt + 1, math.MinInt + 3}

// Of other kinds it is nil itself, not an engine that is nil.
func TestP16_1_MakeOfNoKind(t *testing.T) {
	for _, kind := range noKind {
		if e := group.Make(kind); e != nil {
			t.Errorf("%d: %T", kind, e)
		}
	}
}

// Engines that are made know nothing of one another, nor of a group's.
func TestP16_1_MadeOnesAreTheirOwn(t *testing.T) {
	for _, kind := range kindsOf {
		g := made(t, kind, kind)
		one, two := group.Make(kind), group.Make(kind)
		one.Add(entry(1, "a"))
		takes(t, g, entry(2, "b"), entry(3, "c"))
		if one.Len() != 1 || two.Len() != 0 || group.Make(kind).Len() != 0 {
			t.Errorf("kind %d: %d, %d, %d", kind, one.Len(), two.Len(), group.Make(kind).Len())
		}
		answers(t, g, 0, always(kind), api.Mark{}, false, 9, []api.Entry{entry(2, "b"), entry(3, "c")}, true)
		answers(t, g, 1, always(kind), api.Mark{}, false, 9, []api.Entry{entry(2, "b"), entry(3, "c")}, true)
	}
}

// All rows of one, two and three kinds, the same one several times too: a replica of each, in that order, all up, and nothing taken.
func TestP16_1_New(t *testing.T) {
	if len(rows()) != 39 || api.MaxReplicas != 3 {
		t.Fatalf("%d rows", len(rows()))
	}
	for _, kinds := range rows() {
		g := made(t, kinds...)
		shadowOf(kinds...).looks(t, fmt.Sprint(kinds), g)
		if len(g.Log()) != 0 {
			t.Errorf("%v: %s", kinds, text(g.Log()))
		}
		none(t, g)
		shadowOf(kinds...).looks(t, fmt.Sprint(kinds), g)
	}
}

// None, more than there may be, and rows with one that is no kind at each place: ErrArg, and no group.
func TestP16_1_NewOfWhatCantBe(t *testing.T) {
	wrong := [][]int{nil, {}, {1, 2, 3, 1}, {1, 1, 1, 1}, {3, 3, 3, 3}, {1, 2, 3, 0}, {0, 1, 2, 3}, {1, 2, 3, 1, 2}, {0, 0, 0}, {4, 4, 4}, {0, 0, 0, 0}, slices.Repeat([]int{2}, 100), slices.Repeat([]int{0}, 100), slices.Repeat([]int{3}, 1<<16+1)}
	for _, kinds := range rows() {
		for i := range kinds {
			for _, kind := range noKind {
				other := slices.Clone(kinds)
				other[i] = kind
				wrong = append(wrong, other)
			}
		}
		if len(kinds) == api.MaxReplicas {
			for _, kind := range append(kindsOf, noKind...) {
				wrong = append(wrong, append(slices.Clone(kinds), kind))
			}
		}
	}
	for _, kinds := range wrong {
		if g, err := group.New(kinds...); g != nil || err != api.ErrArg {
			t.Errorf("%.100s: %v, error %d", fmt.Sprint(kinds), g != nil, err)
		}
	}
	if g, err := group.New(); g != nil || err != api.ErrArg {
		t.Errorf("of none: %v, error %d", g != nil, err)
	}
}

// Of a nil group there is nothing: nothing to take an entry, whatever that is, and no replica.
func TestP16_1_NilGroup(t *testing.T) {
	var g *group.Group
	for range 2 {
		for _, e := range slices.Concat(canBe, cantBe) {
			is(t, "Take", g.Take(e), api.ErrNil)
		}
		if g.Size() != 0 || len(g.Log()) != 0 {
			t.Errorf("%d replicas, log %s", g.Size(), text(g.Log()))
		}
		none(t, g)
		for _, i := range append(noPlace(0), 0, 1, 2) {
			if g.Kind(i) != 0 || g.Up(i) || g.Epoch(i) != 0 {
				t.Errorf("%d: kind %d, %v, epoch %d", i, g.Kind(i), g.Up(i), g.Epoch(i))
			}
			is(t, "Crash", g.Crash(i), api.ErrNone)
			is(t, "Restart", g.Restart(i), api.ErrNone)
			for _, ask := range slices.Concat(nobodys(), wrongOnes()) {
				fails(t, g, i, ask, api.ErrNone)
			}
		}
	}
}

// Whatever group it is, full or all down: of replicas that there aren't it is ErrNone, and nothing changes.
func TestP16_1_ReplicasThatThereArent(t *testing.T) {
	for _, kinds := range [][]int{{1}, {2}, {3}, {2, 3}, {3, 2, 1}} {
		g, s := made(t, kinds...), shadowOf(kinds...)
		for k := range api.MaxEntries {
			e := entry(k, "a")
			takes(t, g, e)
			s.log = append(s.log, e)
			if k == 3 {
				none(t, g)
				s.looks(t, "three taken", g)
			}
		}
		none(t, g)
		s.looks(t, "full", g)
		for i := range kinds {
			is(t, "Crash", g.Crash(i), api.OK)
			s.up[i] = false
			none(t, g)
			s.looks(t, "one more down", g)
		}
		for _, ask := range slices.Concat(nobodys(), wrongOnes()) {
			fails(t, g, len(kinds), ask, api.ErrNone)
			fails(t, g, -1, ask, api.ErrNone)
		}
	}
}

// Crash of one that is down, and Restart of one that is up, again and again: an error, and nothing changes.
func TestP16_1_CrashAndRestartAgain(t *testing.T) {
	for _, kinds := range rows() {
		g, s := made(t, kinds...), shadowOf(kinds...)
		for round := range 4 {
			for i := range kinds {
				for range 3 {
					is(t, "Restart of one that is up", g.Restart(i), api.ErrArg)
					s.looks(t, "Restart of one that is up", g)
				}
				is(t, "Crash", g.Crash(i), api.OK)
				s.up[i] = false
				s.looks(t, "Crash", g)
				for range 3 {
					is(t, "Crash of one that is down", g.Crash(i), api.ErrDown)
					s.looks(t, "Crash of one that is down", g)
				}
				e := entry(10*round+i, "a")
				takes(t, g, e)
				s.log = append(s.log, e)
				is(t, "Restart", g.Restart(i), api.OK)
				s.up[i] = true
				s.epochs[i]++
				s.looks(t, "Restart", g)
			}
		}
	}
}

// Only a Restart that was one counts, each once, and of that replica alone.
func TestP16_1_EpochCounts(t *testing.T) {
	g, s := made(t, 1, 3), shadowOf(1, 3)
	for k := range 300 {
		is(t, "Crash", g.Crash(1), api.OK)
		if k%3 == 0 {
			is(t, "Crash", g.Crash(1), api.ErrDown)
			g.Ask(1, always(3), api.Mark{}, false, 1)
			g.Epoch(1)
		}
		if g.Epoch(1) != k+1 {
			t.Fatalf("%d, not %d: it is down, and began so often", g.Epoch(1), k+1)
		}
		is(t, "Restart", g.Restart(1), api.OK)
		is(t, "Restart", g.Restart(1), api.ErrArg)
		is(t, "Restart", g.Restart(0), api.ErrArg)
	}
	s.epochs[1] = 301
	s.looks(t, "300 times", g)
}

// nobodys are values that are no question.
func nobodys() []any {
	token, reads := api.TokenAsk{From: 1, To: 9}, api.ScanAsk{From: 1, To: 9}
	return []any{nil, &token, &reads, (*api.StreamAsk)(nil), []any{token}, struct{}{}, errors.New("a"), 0, 1, "", "a", api.Entry{}, api.Request{Ask: token}, func() {}, map[string]int{}}
}

// wrongOnes are questions of all kinds that can't be.
func wrongOnes() []any {
	out := []any{api.TokenAsk{All: make([][]string, 65)}, api.TokenAsk{All: [][]string{{xs(1025)}}}, api.StreamAsk{Match: make([]api.Matcher, 5)}, api.StreamAsk{Match: []api.Matcher{{Name: "9"}}}}
	for _, kind := range kindsOf {
		out = append(out, whole(kind, api.MaxTime+1, 0), whole(kind, 0, -api.MaxTime-1), whole(kind, math.MinInt, math.MaxInt))
	}
	return out
}
