package scan_test

import (
	"math"
	"math/rand"
	"testing"

	"magpie/api"
	"magpie/record"
	"magpie/scan"
)

// batches asks whether what is asked for by so many, each behind the last entry of the one ahead, is, all together, what is asked for at once from that mark on.
func batches(t *testing.T, g *scan.Engine, ask any, after api.Mark, desc bool, size int) {
	t.Helper()
	whole, all, err := g.Ask(ask, after, desc, math.MaxInt)
	if !all || err != api.OK {
		t.Fatalf("%s at once: %v, error %d", asked(ask), all, err)
	}
	var got []api.Entry
	for range len(whole) + 1 {
		some, all, err := g.Ask(ask, after, desc, size)
		got = append(got, some...)
		if err != api.OK || all != (len(got) == len(whole)) || len(some) > size || !all && len(some) != size {
			t.Fatalf("%s by %d, %v: %d of %d entries up to then, %d at last, %v, error %d", asked(ask), size, desc, len(got), len(whole), len(some), all, err)
		}
		if all {
			break
		}
		after = behind(some[len(some)-1])
	}
	if !allSame(got, whole) {
		t.Fatalf("%s by %d, %v: %s, not %s", asked(ask), size, desc, text(got), text(whole))
	}
}

// Each question, either way round, from each mark on, by batches of every length.
func TestP15_2_BatchesOfEveryLength(t *testing.T) {
	g := engine(turned(rising, true)...)
	for _, q := range questions() {
		for _, after := range marks() {
			for size := 1; size < len(q.kept)+3; size++ {
				batches(t, g, q.ask, after, false, size)
				batches(t, g, q.ask, after, true, size)
			}
		}
	}
}

// The batches of a question, spelt out: each but the last one is full, and the last one says that it is all.
func TestP15_2_BatchesFew(t *testing.T) {
	a, b, c, d := entry(1, "q"), entry(1, "q", "app", "x"), entry(2, ""), entry(3, "\xff", "a", "b", "app", "x")
	g := engine(entry(4, "q"), d, b, entry(0, "q"), a, c, a)
	for _, x := range []struct {
		desc bool
		size int
		want [][]api.Entry
	}{
		{false, 1, [][]api.Entry{{a}, {b}, {c}, {d}}}, {false, 2, [][]api.Entry{{a, b}, {c, d}}}, {false, 3, [][]api.Entry{{a, b, c}, {d}}}, {false, 4, [][]api.Entry{{a, b, c, d}}}, {false, 5, [][]api.Entry{{a, b, c, d}}},
		{true, 1, [][]api.Entry{{d}, {c}, {b}, {a}}}, {true, 2, [][]api.Entry{{d, c}, {b, a}}}, {true, 3, [][]api.Entry{{d, c, b}, {a}}}, {true, 4, [][]api.Entry{{d, c, b, a}}}, {true, math.MaxInt, [][]api.Entry{{d, c, b, a}}},
	} {
		var after api.Mark
		for i, want := range x.want {
			asks(t, g, times(1, 3), after, x.desc, x.size, want, i == len(x.want)-1)
			after = behind(want[len(want)-1])
		}
		asks(t, g, times(1, 3), after, x.desc, x.size, nil, true)
	}
}

func TestP15_2_BatchesOfNone(t *testing.T) {
	for _, q := range questions() {
		for size := 1; size < 20; size++ {
			batches(t, scan.New(), q.ask, api.Mark{}, size%2 == 0, size)
			batches(t, scan.New(), q.ask, behind(rising[3]), size%2 == 0, size)
		}
	}
}

// As many entries as a group has, by batches of every length.
func TestP15_2_BatchesOfMany(t *testing.T) {
	r := rand.New(rand.NewSource(155))
	list := record.Sort(false, strewn(r, 1000)...)
	r.Shuffle(len(list), func(i, k int) { list[i], list[k] = list[k], list[i] })
	g := engine(list[:api.MaxEntries]...)
	for _, q := range []api.ScanAsk{always(), times(-2, 2), times(0, 0), times(1, -1)} {
		for size := 1; size < api.MaxEntries+3; size++ {
			batches(t, g, q, api.Mark{}, false, size)
			batches(t, g, q, api.Mark{}, true, size)
		}
	}
}

// A long row, by batches of every length, also from the middle on.
func TestP15_2_BatchesOfRows(t *testing.T) {
	list := row(70)
	g := engine(turned(list, true)...)
	for size := 1; size < len(list)+2; size++ {
		for _, q := range []api.ScanAsk{always(), times(35, 610), times(330, 330)} {
			batches(t, g, q, api.Mark{}, false, size)
			batches(t, g, q, api.Mark{}, true, size)
			batches(t, g, q, behind(list[33]), size%2 == 0, size)
		}
	}
}

// Entries of one time and line, and of one time and no labels, by batches of every length.
func TestP15_2_BatchesOfOneTime(t *testing.T) {
	var list []api.Entry
	for i := range 20 {
		value := string(rune('a' + i))
		list = append(list, entry(5, "x", "app", value), entry(5, "x "+value), entry(5, "x", "app", value, "env", ""))
	}
	g := engine(list...)
	for size := 1; size < len(list)+2; size++ {
		for _, q := range []api.ScanAsk{always(), times(5, 5), times(4, 5)} {
			batches(t, g, q, api.Mark{}, false, size)
			batches(t, g, q, api.Mark{}, true, size)
		}
	}
}

func TestP15_2_BatchesOfAny(t *testing.T) {
	r := rand.New(rand.NewSource(156))
	for range 500 {
		g := engine(strewn(r, r.Intn(150))...)
		for range 5 {
			after := []api.Mark{{}, behind(strewn(r, 1)[0])}[r.Intn(2)]
			batches(t, g, anyAsk(r), after, r.Intn(2) == 0, 1+r.Intn(20))
		}
	}
}

// An entry that is added between two batches is told, if it comes behind the mark; what was told isn't told again.
func TestP15_2_AddedBetweenBatches(t *testing.T) {
	for size := 1; size < len(rising); size++ {
		for _, desc := range []bool{false, true} {
			for i, e := range rising {
				others := make([]api.Entry, 0, len(rising))
				others = append(append(others, rising[:i]...), rising[i+1:]...)
				g := engine(others...)
				first, _, _ := g.Ask(always(), api.Mark{}, desc, size)
				after := behind(first[len(first)-1])
				g.Add(e)
				batches(t, g, always(), after, desc, size)
				asks(t, g, always(), after, desc, 99, left(turned(rising, desc), desc, after), true)
			}
		}
	}
}
