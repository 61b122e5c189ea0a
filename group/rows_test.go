package group_test

import (
	"fmt"
	"math"
	"math/rand"
	"slices"
	"testing"

	"magpie/api"
	"magpie/group"
	"magpie/record"
)

// Calls that may change a group.
const (
	takeOne = iota
	takeWrong
	crashOne
	restartOne
)

// act is such a call, with the place of an entry, or of a replica.
type act struct {
	call int
	i    int
}

func (a act) String() string {
	return fmt.Sprint([]string{"take", "take wrong", "crash", "restart"}[a.call], " ", a.i)
}

// few are entries that acts take: two that differ in their line alone, and one that comes ahead of both.
var few = []api.Entry{entry(5, "b", "app", "x"), entry(5, "a", "app", "x"), entry(4, "a b")}

// does has a group do what an act says, and asks whether it answers as it must, and is as it must be.
func (s *shadow) does(t *testing.T, why string, g *group.Group, a act) {
	t.Helper()
	switch a.call {
	case takeOne:
		s.takesAny(t, why, g, few[a.i])
	case takeWrong:
		is(t, why, g.Take(copied(cantBe[a.i])), api.ErrArg)
	case crashOne:
		is(t, why, g.Crash(a.i), s.crashes(a.i))
	case restartOne:
		is(t, why, g.Restart(a.i), s.restarts(a.i))
	}
}

// crashes tells what Crash must answer, and does it.
func (s *shadow) crashes(i int) api.Errno {
	if i < 0 || i >= len(s.kinds) {
		return api.ErrNone
	}
	if !s.up[i] {
		return api.ErrDown
	}
	s.up[i] = false
	return api.OK
}

// restarts tells what Restart must answer, and does it.
func (s *shadow) restarts(i int) api.Errno {
	if i < 0 || i >= len(s.kinds) {
		return api.ErrNone
	}
	if s.up[i] {
		return api.ErrArg
	}
	s.up[i] = true
	s.epochs[i]++
	return api.OK
}

// run has a new group do acts, one behind the other, and looks at it behind each.
func run(t *testing.T, kinds []int, acts []act) {
	t.Helper()
	g, s := made(t, kinds...), shadowOf(kinds...)
	for i, a := range acts {
		why := fmt.Sprintf("%v: %v", kinds, acts[:i+1])
		s.does(t, why, g, a)
		s.looks(t, why, g)
	}
}

// actsOf are acts of a group of so many replicas, two of which there aren't.
func actsOf(n int) []act {
	acts := []act{{takeOne, 0}, {takeOne, 1}, {takeWrong, 3}, {crashOne, -1}, {restartOne, n}}
	for i := range n {
		acts = append(acts, act{crashOne, i}, act{restartOne, i})
	}
	return acts
}

// each goes over all rows of so many acts.
func each(acts []act, n int, yield func(row []act)) {
	row := make([]act, n)
	places := make([]int, n)
	for {
		for i, p := range places {
			row[i] = acts[p]
		}
		yield(row)
		i := n - 1
		for i >= 0 && places[i] == len(acts)-1 {
			places[i] = 0
			i--
		}
		if i < 0 {
			return
		}
		places[i]++
	}
}

// All rows of acts, up to a length: of a group of one, two, and three, whose kinds go round.
func TestP16_1_AllRowsOfCalls(t *testing.T) {
	for _, x := range []struct{ size, length int }{{1, 5}, {2, 4}, {3, 4}} {
		kinds := rowsOf(x.size)
		next := 0
		each(actsOf(x.size), x.length, func(row []act) {
			run(t, kinds[next%len(kinds)], row)
			next++
		})
	}
}

// orders are all orders of so many places.
func orders(n int) [][]int {
	if n == 0 {
		return [][]int{nil}
	}
	var out [][]int
	for _, one := range orders(n - 1) {
		for i := range n {
			out = append(out, slices.Insert(slices.Clone(one), i, n-1))
		}
	}
	return out
}

// Entries, and Crash and Restart of each of two, in every order, of all kinds.
func TestP16_1_CallsInEveryOrder(t *testing.T) {
	acts := []act{{takeOne, 0}, {takeOne, 1}, {crashOne, 0}, {crashOne, 1}, {restartOne, 0}, {restartOne, 1}}
	for _, kinds := range rowsOf(2) {
		for _, order := range orders(len(acts)) {
			var row []act
			for _, i := range order {
				row = append(row, acts[i])
			}
			run(t, kinds, row)
		}
	}
}

// Three replicas, each of which is down for any while, or never, or from then on, as entries are taken.
func TestP16_2_DownForAnyWhile(t *testing.T) {
	const n = 4
	list := []api.Entry{few[0], few[1], few[0], few[2]}
	type while struct{ from, to int }
	var whiles []while
	for from := range n + 1 {
		for to := from; to <= n+1; to++ {
			whiles = append(whiles, while{from, to})
		}
	}
	kinds := rowsOf(3)
	for k := range len(whiles) * len(whiles) * len(whiles) {
		downs := []while{whiles[k%len(whiles)], whiles[k/len(whiles)%len(whiles)], whiles[k/len(whiles)/len(whiles)]}
		g, s := made(t, kinds[k%len(kinds)]...), shadowOf(kinds[k%len(kinds)]...)
		for at := range n + 1 {
			why := fmt.Sprintf("%v: down %v, %d taken", s.kinds, downs, at)
			for i, w := range downs {
				if w.from < w.to && w.from == at {
					s.does(t, why, g, act{crashOne, i})
				}
				if w.from < w.to && w.to == at {
					s.does(t, why, g, act{restartOne, i})
				}
			}
			s.looks(t, why, g)
			alike(t, why, g)
			if at < n {
				takes(t, g, list[at])
				s.log = append(s.log, list[at])
			}
		}
	}
}

// alike asks whether all replicas that are up have the same entries, told either way round, at once and by batches.
func alike(t *testing.T, why string, g *group.Group) {
	t.Helper()
	for _, desc := range []bool{false, true} {
		var had []api.Entry
		first := true
		for i := range g.Size() {
			if !g.Up(i) {
				continue
			}
			list, all, err := g.Ask(i, always(g.Kind(i)), api.Mark{}, desc, math.MaxInt)
			if !all || err != api.OK || !first && !allSame(list, had) {
				t.Fatalf("%s: replica %d: %s, %v, error %d; one ahead of it %s", why, i, text(list), all, err, text(had))
			}
			if by := batches(t, g, i, desc, 7); !allSame(by, list) {
				t.Fatalf("%s: replica %d by batches: %s, not %s", why, i, text(by), text(list))
			}
			had, first = list, false
		}
	}
}

// batches are a replica's entries, told by so many, each batch behind the last entry of the one ahead.
func batches(t *testing.T, g *group.Group, i int, desc bool, size int) []api.Entry {
	t.Helper()
	var list []api.Entry
	var after api.Mark
	for range api.MaxEntries + 1 {
		some, all, err := g.Ask(i, always(g.Kind(i)), after, desc, size)
		list = append(list, some...)
		if err != api.OK || all {
			return list
		}
		after = behind(some[len(some)-1])
	}
	t.Fatalf("replica %d: no end by %d", i, size)
	return nil
}

// All down, entries taken meanwhile: nothing of the log is lost, and each has it behind its Restart, in whatever order they come up.
func TestP16_2_AllDown(t *testing.T) {
	for _, kinds := range rows() {
		for _, order := range orders(len(kinds)) {
			g, s := made(t, kinds...), shadowOf(kinds...)
			s.take(t, g, few[0])
			s.crash(t, g, downs(len(kinds))-1)
			s.looks(t, "all down", g)
			s.take(t, g, few[1], few[1], canBe[7])
			s.looks(t, "all down, and taken", g)
			for _, i := range order {
				s.does(t, "up", g, act{restartOne, i})
				s.looks(t, fmt.Sprintf("%v: %d up", kinds, i), g)
				alike(t, fmt.Sprintf("%v: %d up", kinds, i), g)
				s.take(t, g, entry(i, "a"))
				s.looks(t, "up, and taken", g)
			}
			alike(t, "all up", g)
		}
	}
}

// All down ahead of the first entry, and a Restart ahead of it.
func TestP16_2_DownFromTheFirst(t *testing.T) {
	for _, kinds := range rows() {
		g, s := made(t, kinds...), shadowOf(kinds...)
		s.crash(t, g, downs(len(kinds))-1)
		s.restart(t, g)
		s.looks(t, "of nothing", g)
		s.crash(t, g, downs(len(kinds))-1)
		s.take(t, g, canBe...)
		s.looks(t, "down", g)
		s.restart(t, g)
		s.looks(t, "up", g)
		alike(t, "up", g)
	}
}

// What one that is up answered stays true of one that came up later: any question of the kind is answered alike by replicas of the same kind.
func TestP16_2_OfTheSameKindAlike(t *testing.T) {
	for _, kind := range kindsOf {
		g := made(t, kind, kind, kind)
		for k, e := range record.Sort(kind == api.Streams, canBe...) {
			is(t, "Crash", g.Crash(k%3), api.OK)
			takes(t, g, e, canBe[k])
			is(t, "Restart", g.Restart(k%3), api.OK)
			for _, ask := range questions(kind) {
				for _, after := range marks() {
					want, all, err := g.Ask(0, ask, after, k%2 == 0, 4)
					is(t, "Ask", err, api.OK)
					answers(t, g, 1, ask, after, k%2 == 0, 4, want, all)
					answers(t, g, 2, ask, after, k%2 == 0, 4, want, all)
				}
			}
		}
	}
}

// Long rows of any acts, most of them entries that are taken, until the log is full, and further.
func TestP16_2_AnyRows(t *testing.T) {
	r := rand.New(rand.NewSource(161))
	for round := range 80 {
		kinds := rows()[r.Intn(39)]
		g, s := made(t, kinds...), shadowOf(kinds...)
		for k := range 260 {
			why := fmt.Sprintf("round %d: %v, %d", round, kinds, k)
			switch r.Intn(4) {
			case 0:
				s.does(t, why, g, act{crashOne, r.Intn(5) - 1})
			case 1:
				s.does(t, why, g, act{restartOne, r.Intn(5) - 1})
			default:
				s.takesAny(t, why, g, strewn(r))
			}
			if k%13 == 0 {
				s.does(t, why, g, act{takeWrong, r.Intn(len(cantBe))})
				s.looks(t, why, g)
				alike(t, why, g)
			}
		}
		s.restart(t, g)
		s.looks(t, "at last", g)
		alike(t, "at last", g)
	}
}

// takesAny has a group take an entry, if it isn't full.
func (s *shadow) takesAny(t *testing.T, why string, g *group.Group, e api.Entry) {
	t.Helper()
	if len(s.log) == api.MaxEntries {
		is(t, why, g.Take(e), api.ErrBusy)
		return
	}
	is(t, why, g.Take(copied(e)), api.OK)
	s.log = append(s.log, e)
}

// strewn is any entry of few times, labels and lines.
func strewn(r *rand.Rand) api.Entry {
	lines := []string{"", "a", "b", "a b", "\xff", "a-b c", "\x00\x00"}
	labels := [][]string{nil, {"app", ""}, {"app", "x"}, {"app", "y"}, {"app", "x", "env", "y"}, {"env", "\n"}}
	return entry(r.Intn(9)-4, lines[r.Intn(len(lines))], labels[r.Intn(len(labels))]...)
}
