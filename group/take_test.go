package group_test

import (
	"math"
	"slices"
	"strings"
	"testing"

	"magpie/api"
	"magpie/group"
	"magpie/record"
)

// canBe are entries that can be, each just so.
var canBe = []api.Entry{
	{}, entry(0, "a"), entry(-api.MaxTime, ""), entry(api.MaxTime, "a"), entry(5, ""), entry(5, xs(200)), entry(5, strings.Repeat("a ", 100)), entry(5, strings.Repeat("é", 100)), entry(5, "\x00\xff\r\t a"), entry(5, strings.Repeat("\xff", 128)), entry(5, "\u2028\ufffd\xc3"),
	entry(5, "a", "a", ""), entry(5, "a", "_", "x"), entry(5, "a", xs(20), xs(20)), entry(5, "a", "a", "\n\xff"), entry(5, "b", "a", "", "b", "", "c", ""), entry(5, "a", "A", "1", "a", "2", "aa", "3", "b", "4"), entry(-1, xs(200), "a"+xs(19), xs(20), "b"+xs(19), xs(20), "c"+xs(19), xs(20), "d"+xs(19), xs(20)),
}

// cantBe are entries that can't.
var cantBe = []api.Entry{
	entry(-api.MaxTime-1, "a"), entry(api.MaxTime+1, "a"), entry(math.MinInt, "a"), entry(math.MaxInt, "a"), entry(5, "\n"), entry(5, "a\n"), entry(5, "\na"), entry(5, "a\nb"), entry(5, xs(201)), entry(5, xs(5000)),
	entry(5, "a", "", "x"), entry(5, "a", "9", "x"), entry(5, "a", "a-b", "x"), entry(5, "a", "é", "x"), entry(5, "a", xs(21), "x"), entry(5, "a", "a", xs(21)), entry(5, "a", "b", "x", "a", "x"), entry(5, "a", "a", "x", "a", "x"), entry(5, "a", "a", "x", "a", "y"),
	entry(5, "a", "a", "", "b", "", "c", "", "d", "", "e", ""), entry(5, "a\n", "app", "x"), entry(api.MaxTime+1, "a", "app", "x"),
}

// downs are all ways in which some of so many replicas are down: as bits.
func downs(n int) int { return 1 << n }

// crash has those replicas go down, of which a bit stands.
func (s *shadow) crash(t *testing.T, g *group.Group, bits int) {
	t.Helper()
	for i := range s.kinds {
		if bits>>i&1 == 1 {
			is(t, "Crash", g.Crash(i), api.OK)
			s.up[i] = false
		}
	}
}

// restart has all replicas come up that are down.
func (s *shadow) restart(t *testing.T, g *group.Group) {
	t.Helper()
	for i := range s.kinds {
		if !s.up[i] {
			is(t, "Restart", g.Restart(i), api.OK)
			s.up[i] = true
			s.epochs[i]++
		}
	}
}

// take has a group take entries, one behind the other.
func (s *shadow) take(t *testing.T, g *group.Group, list ...api.Entry) {
	t.Helper()
	takes(t, g, list...)
	s.log = append(s.log, copies(list)...)
}

// What can be is taken, whichever replicas are up: it is in the log, and each that is up has it.
func TestP16_1_TakeOfWhatCanBe(t *testing.T) {
	for _, kinds := range rows() {
		for bits := range downs(len(kinds)) {
			g, s := made(t, kinds...), shadowOf(kinds...)
			s.crash(t, g, bits)
			for _, e := range canBe {
				s.take(t, g, e)
				s.looks(t, "taken", g)
			}
			s.restart(t, g)
			s.looks(t, "up again", g)
		}
	}
	for _, e := range canBe {
		g, s := made(t, kindsOf...), shadowOf(kindsOf...)
		s.take(t, g, e)
		s.looks(t, "one alone", g)
	}
}

// What can't be isn't taken: neither the log nor a replica has it, now or behind a Restart.
func TestP16_1_TakeOfWhatCantBe(t *testing.T) {
	for _, kinds := range [][]int{{1}, {2}, {3}, {3, 1}, {1, 2, 3}} {
		for bits := range downs(len(kinds)) {
			g, s := made(t, kinds...), shadowOf(kinds...)
			s.crash(t, g, bits)
			for i, e := range cantBe {
				is(t, "Take of "+text([]api.Entry{e}), g.Take(e), api.ErrArg)
				s.looks(t, "not taken", g)
				s.take(t, g, entry(i, "a"))
				is(t, "Take of "+text([]api.Entry{e}), g.Take(e), api.ErrArg)
				s.looks(t, "not taken, once more", g)
			}
			s.restart(t, g)
			s.looks(t, "up again", g)
		}
	}
}

// One that is taken twice, at once or later, stands in the log twice; replicas have it once.
func TestP16_1_TakeTwice(t *testing.T) {
	for _, kinds := range [][]int{{1}, {2}, {3}, {2, 1}, {1, 2, 3}} {
		for bits := range downs(len(kinds)) {
			g, s := made(t, kinds...), shadowOf(kinds...)
			s.take(t, g, canBe[3], canBe[3])
			s.looks(t, "at once", g)
			s.crash(t, g, bits)
			for _, e := range canBe {
				s.take(t, g, e, e)
				s.looks(t, "at once", g)
			}
			s.take(t, g, canBe...)
			s.looks(t, "later", g)
			s.restart(t, g)
			s.looks(t, "up again", g)
			s.take(t, g, canBe[0], canBe[5])
			s.looks(t, "later, by all", g)
			if n := len(g.Log()); n != 3*len(canBe)+4 {
				t.Errorf("a log of %d", n)
			}
		}
	}
}

// The labels of an entry being none or an empty list, it is the same one.
func TestP16_1_TakeWithoutLabels(t *testing.T) {
	g, s := made(t, kindsOf...), shadowOf(kindsOf...)
	s.take(t, g, entry(5, "a"), api.Entry{At: 5, Line: "a", Labels: []api.Label{}}, entry(5, "a"))
	s.looks(t, "three times", g)
	answers(t, g, 0, always(1), api.Mark{}, false, 9, []api.Entry{entry(5, "a")}, true)
}

// The log stands as entries were taken, not as they are ordered.
func TestP16_1_LogStandsAsTaken(t *testing.T) {
	list := []api.Entry{entry(9, "z"), entry(1, "b"), entry(1, "a"), entry(9, "z"), entry(-5, ""), entry(1, "a", "app", "x"), entry(1, "b"), entry(1, "a")}
	for _, kinds := range rows() {
		g := made(t, kinds...)
		for i, e := range list {
			takes(t, g, e)
			if got := g.Log(); !allSame(got, list[:i+1]) {
				t.Errorf("%s, not %s", text(got), text(list[:i+1]))
			}
		}
		is(t, "Crash", g.Crash(0), api.OK)
		if got := g.Log(); !allSame(got, list) {
			t.Errorf("one down: %s, not %s", text(got), text(list))
		}
		is(t, "Restart", g.Restart(0), api.OK)
		if got := g.Log(); !allSame(got, list) {
			t.Errorf("up again: %s, not %s", text(got), text(list))
		}
	}
}

// fillings are lists as long as a log may be, and longer: of different entries, of ever the same one, of some by turns.
func fillings() map[string][]api.Entry {
	const n = api.MaxEntries + 5
	out := map[string][]api.Entry{"ever the same": slices.Repeat([]api.Entry{entry(5, "a", "app", "x")}, n)}
	for i := range n {
		out["different"] = append(out["different"], entry(7919*i%n, xs(i%7), []string{"app", "x"}[:i%2*2]...))
		out["falling"] = append(out["falling"], entry(-i, "a"))
		out["by turns"] = append(out["by turns"], canBe[i%len(canBe)])
	}
	return out
}

// A log of one less than as many as may be takes one more; one of as many takes none, also such that it has: ErrBusy, and nothing changes. So it is while all are up, some, and none; one that can't be is ErrArg ahead of that.
func TestP16_1_TakeUntilFull(t *testing.T) {
	if api.MaxEntries != 100 {
		t.Fatalf("%d", api.MaxEntries)
	}
	for why, list := range fillings() {
		for _, kinds := range [][]int{{1}, {2}, {3}, {1, 2, 3}} {
			for bits := range downs(len(kinds)) {
				g, s := made(t, kinds...), shadowOf(kinds...)
				s.crash(t, g, bits)
				s.take(t, g, list[:api.MaxEntries-1]...)
				is(t, "Take", g.Take(cantBe[0]), api.ErrArg)
				s.looks(t, why+", one less", g)
				s.take(t, g, list[api.MaxEntries-1])
				s.looks(t, why+", just as many", g)
				s.staysFull(t, why, g, list[api.MaxEntries:])
				s.restart(t, g)
				s.staysFull(t, why+", up again", g, list)
				s.crash(t, g, downs(len(kinds))-1)
				s.staysFull(t, why+", all down", g, list)
				s.restart(t, g)
				s.staysFull(t, why+", and up", g, list)
			}
		}
	}
}

// staysFull asks whether a full group takes nothing, whatever it is.
func (s *shadow) staysFull(t *testing.T, why string, g *group.Group, list []api.Entry) {
	t.Helper()
	for _, e := range slices.Concat(list, canBe, list) {
		is(t, why, g.Take(e), api.ErrBusy)
	}
	for _, e := range cantBe {
		is(t, why, g.Take(e), api.ErrArg)
	}
	s.looks(t, why, g)
	if len(g.Log()) != api.MaxEntries {
		t.Errorf("%s: a log of %d", why, len(g.Log()))
	}
}

// At every length of the log: one that is down has all of it behind its Restart.
func TestP16_1_RestartAtEachLength(t *testing.T) {
	for why, list := range fillings() {
		g, s := made(t, kindsOf...), shadowOf(kindsOf...)
		for n := range api.MaxEntries {
			s.crash(t, g, 1<<(n%3))
			s.take(t, g, list[n])
			if n%5 == 4 {
				s.looks(t, why, g)
			}
			s.restart(t, g)
			s.looks(t, why, g)
		}
		s.staysFull(t, why, g, list)
	}
}

// Each call answers the same again, as long as nothing was taken, went down or came up.
func TestP16_1_AskedAgain(t *testing.T) {
	g, s := made(t, 3, 1, 2), shadowOf(3, 1, 2)
	s.take(t, g, canBe...)
	s.crash(t, g, 2)
	for range 20 {
		s.looks(t, "again", g)
		for i, kind := range s.kinds {
			g.Ask(i, always(kind), behind(canBe[4]), true, 3)
			g.Ask(i, nil, behind(canBe[4]), true, 3)
		}
	}
	want := record.Sort(false, canBe...)
	answers(t, g, 0, always(3), api.Mark{}, false, 5, want[:5], false)
	answers(t, g, 2, always(2), behind(want[4]), false, 5, want[5:10], false)
}
