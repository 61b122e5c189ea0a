package dialect_test

import (
	"math"
	"math/rand"
	"slices"
	"strings"
	"testing"

	"magpie/api"
	"magpie/dialect"
)

// keeps asks whether a question asks for an entry just if it should.
func keeps(t *testing.T, ask any, e api.Entry, want bool) {
	t.Helper()
	if dialect.Keeps(ask, e) != want {
		t.Errorf("%s, %.200v: %v", text(ask), e, !want)
	}
}

func line(s string) api.Entry { return api.Entry{At: 5, Line: s} }

// entry is one with labels: a name, its value, and so on.
func entry(at int, line string, labels ...string) api.Entry {
	e := api.Entry{At: at, Line: line}
	for i := 0; i < len(labels); i += 2 {
		e.Labels = append(e.Labels, api.Label{Name: labels[i], Value: labels[i+1]})
	}
	return e
}

func TestP12_1_KeepsOfNobodys(t *testing.T) {
	for _, ask := range nobodys() {
		for _, e := range []api.Entry{{}, line("a"), entry(1, "a", "a", "x"), entry(9, "")} {
			keeps(t, ask, e, false)
		}
	}
}

// Entries at From and at To are asked for, one ahead and one behind aren't, of each kind; To below From asks for none.
func TestP12_1_KeepsTimes(t *testing.T) {
	const most = api.MaxTime
	times := []int{0, 1, 2, 5, -1, -5, most, most - 1, -most, most + 1, -most - 1, math.MaxInt, math.MinInt}
	for _, from := range times {
		for _, to := range times {
			for _, near := range times {
				for _, at := range []int{near, near - 1, near + 1} {
					want := from <= at && at <= to
					kept, lost := entry(at, "a", "app", "x"), entry(at, "b", "app", "y")
					keeps(t, scans(from, to), kept, want)
					keeps(t, scans(from, to), lost, want)
					keeps(t, tokens(from, to), lost, want)
					keeps(t, tokens(from, to, row("a")), kept, want)
					keeps(t, tokens(from, to, row("a")), lost, false)
					keeps(t, tokens(from, to, nil), kept, false)
					keeps(t, streams(from, to), lost, want)
					keeps(t, streams(from, to, is("app", "x")), kept, want)
					keeps(t, streams(from, to, is("app", "x")), lost, false)
				}
			}
		}
	}
}

func TestP12_1_KeepsWords(t *testing.T) {
	for _, c := range []struct {
		rows [][]string
		line string
		want bool
	}{
		// No rows ask for all lines, an empty one for none.
		{nil, "", true}, {nil, "a", true}, {[][]string{}, "a", true}, {[][]string{nil}, "", false}, {[][]string{nil}, "a", false}, {[][]string{{}}, "a", false}, {[][]string{{"a"}, nil}, "a", false}, {[][]string{nil, {"a"}}, "a", false},
		// A word of a row.
		{[][]string{{"a"}}, "a", true}, {[][]string{{"a"}}, "b", false}, {[][]string{{"a"}}, "", false}, {[][]string{{"a"}}, "b-a", true}, {[][]string{{"a"}}, "b a c", true}, {[][]string{{"a"}}, "A", false}, {[][]string{{"a", "a"}}, "a", true},
		// One of a row's, all, none.
		{[][]string{{"a", "b"}}, "a", true}, {[][]string{{"a", "b"}}, "b", true}, {[][]string{{"a", "b"}}, "b a", true}, {[][]string{{"a", "b"}}, "c", false}, {[][]string{{"a", "b", "c"}}, "x,c", true}, {[][]string{{"a", "b"}}, "ab", false},
		// A part of a word.
		{[][]string{{"get"}}, "getting", false}, {[][]string{{"get"}}, "forget", false}, {[][]string{{"get"}}, "get_", false}, {[][]string{{"get"}}, "get1", false}, {[][]string{{"get"}}, "éget", false}, {[][]string{{"get"}}, "getting get", true}, {[][]string{{"getting"}}, "get ting", false},
		// Of each row one.
		{[][]string{{"a", "b"}, {"c"}}, "c-b", true}, {[][]string{{"a", "b"}, {"c"}}, "a b", false}, {[][]string{{"a", "b"}, {"c"}}, "c", false}, {[][]string{{"a"}, {"a"}}, "a", true}, {[][]string{{"a"}, {"b"}, {"c"}}, "c a", false}, {[][]string{{"a"}, {"b"}, {"c"}}, "c b a", true}, {[][]string{{"x", "a"}, {"a", "y"}}, "a", true},
		// What no word can be is no line's.
		{[][]string{{""}}, "", false}, {[][]string{{""}}, "a", false}, {[][]string{{"", "a"}}, "a", true}, {[][]string{{"a b"}}, "a b", false}, {[][]string{{"a-"}}, "a-", false}, {[][]string{{" "}}, " ", false}, {[][]string{{"\xff"}}, "\xff", false}, {[][]string{{"\ufffd"}}, "\ufffd", false}, {[][]string{{"\ufffd"}}, "\xff", false}, {[][]string{{xs(1024)}}, xs(200), false},
		// Bytes that are no UTF-8 end words; runes from U+0080 on are words'.
		{[][]string{{"a"}}, "\xffa\xff", true}, {[][]string{{"é"}}, "é", true}, {[][]string{{"é"}}, "a é", true}, {[][]string{{"é"}}, "aé", false}, {[][]string{{"e"}}, "é", false},
		// Lines and questions that can't be.
		{[][]string{{"b"}}, "a\nb", true}, {[][]string{{xs(300)}}, xs(300), true}, {[][]string{{xs(5000)}}, "a " + xs(5000), true},
		{slices.Repeat([][]string{{"a"}}, 65), "a", true}, {slices.Repeat([][]string{{"a"}}, 65), "b", false}, {append(slices.Repeat([][]string{{"a"}}, 65), row("b")), "a", false}, {[][]string{append(make([]string, 64), "a")}, "a", true},
	} {
		keeps(t, tokens(1, 9, c.rows...), line(c.line), c.want)
		keeps(t, tokens(5, 5, c.rows...), entry(5, c.line, "a", "b"), c.want)
		keeps(t, tokens(6, 9, c.rows...), line(c.line), false)
	}
}

// wordsOf: by the chapters' words alone, of a line of letters, strokes and blanks.
func wordsOf(line string) []string {
	return strings.FieldsFunc(line, func(c rune) bool { return c == '-' || c == ' ' })
}

// wanted: whether a line has of each row a word.
func wanted(rows [][]string, line string) bool {
	for _, row := range rows {
		n := 0
		for _, w := range row {
			if slices.Contains(wordsOf(line), w) {
				n++
			}
		}
		if n == 0 {
			return false
		}
	}
	return true
}

// All rows of a few words, one and two, against all lines of a few pieces.
func TestP12_1_KeepsAllSmallRows(t *testing.T) {
	words := []string{"a", "b", "ab", "", "-"}
	rows := [][]string{nil}
	for _, v := range words {
		rows = append(rows, row(v))
		for _, w := range words {
			rows = append(rows, row(v, w))
		}
	}
	lines := []string{""}
	for n := 0; n < len(lines) && len(lines[n]) < 4; n++ {
		for _, piece := range []string{"a", "b", "-", " "} {
			lines = append(lines, lines[n]+piece)
		}
	}
	for _, s := range lines {
		for _, one := range rows {
			keeps(t, tokens(1, 9, one), line(s), wanted([][]string{one}, s))
			for _, two := range rows {
				if dialect.Keeps(tokens(1, 9, one, two), line(s)) != (wanted([][]string{one}, s) && wanted([][]string{two}, s)) {
					t.Fatalf("%q, %q: %q", one, two, s)
				}
			}
		}
	}
}

// As many rows and words as may be: each row counts, at each place, and each word of it.
func TestP12_1_KeepsManyRows(t *testing.T) {
	for _, n := range []int{1, 2, 3, 32, 33, 63, 64} {
		for at := range n {
			words := slices.Repeat([]string{"b"}, n)
			words[at] = "a"
			full := slices.Repeat([][]string{{"x", "a"}}, n)
			keeps(t, tokens(1, 9, full...), line("a"), true)
			keeps(t, tokens(1, 9, words), line("a"), true)
			full[at] = words
			keeps(t, tokens(1, 9, full...), line("a"), true)
			words[at] = "c"
			keeps(t, tokens(1, 9, full...), line("a"), false)
			keeps(t, tokens(1, 9, words), line("a"), false)
			full[at] = nil
			keeps(t, tokens(1, 9, full...), line("a"), false)
		}
	}
}

func TestP12_1_KeepsLabels(t *testing.T) {
	e := entry(5, "line", "app", "x", "env", "", "host", "a b")
	for _, c := range []struct {
		list []api.Matcher
		want bool
	}{
		{nil, true}, {[]api.Matcher{}, true},
		{[]api.Matcher{is("app", "x")}, true}, {[]api.Matcher{isnt("app", "x")}, false}, {[]api.Matcher{is("app", "y")}, false}, {[]api.Matcher{isnt("app", "y")}, true}, {[]api.Matcher{is("app", "")}, false}, {[]api.Matcher{isnt("app", "")}, true},
		{[]api.Matcher{is("env", "")}, true}, {[]api.Matcher{isnt("env", "")}, false}, {[]api.Matcher{is("env", "x")}, false}, {[]api.Matcher{isnt("env", "x")}, true},
		{[]api.Matcher{is("job", "")}, true}, {[]api.Matcher{isnt("job", "")}, false}, {[]api.Matcher{is("job", "x")}, false}, {[]api.Matcher{isnt("job", "x")}, true}, {[]api.Matcher{is("host", "a b")}, true}, {[]api.Matcher{is("host", "a")}, false},
		// All of them must keep it.
		{[]api.Matcher{is("app", "x"), isnt("env", "x"), is("job", ""), is("host", "a b")}, true}, {[]api.Matcher{is("app", "x"), isnt("env", "x"), is("job", ""), is("host", "a")}, false}, {[]api.Matcher{is("app", "y"), isnt("env", "x"), is("job", ""), is("host", "a b")}, false}, {[]api.Matcher{is("app", "x"), isnt("env", ""), is("job", "")}, false},
		{[]api.Matcher{is("app", "x"), isnt("app", "x")}, false}, {[]api.Matcher{isnt("app", "y"), isnt("app", "z")}, true}, {[]api.Matcher{is("app", "x"), is("app", "x")}, true},
		// Matchers and questions that can't be.
		{[]api.Matcher{is("", "")}, true}, {[]api.Matcher{isnt("9", "\n")}, true}, {slices.Repeat([]api.Matcher{is("app", "x")}, 5), true}, {append(slices.Repeat([]api.Matcher{is("app", "x")}, 4), is("app", "y")), false},
	} {
		keeps(t, streams(1, 9, c.list...), e, c.want)
		keeps(t, streams(5, 5, c.list...), e, c.want)
		keeps(t, streams(1, 4, c.list...), e, false)
		keeps(t, streams(6, 9, c.list...), e, false)
	}
}

// valueOf: an entry's value by the chapter's words.
func valueOf(e api.Entry, name string) string {
	for _, l := range e.Labels {
		if l.Name == name {
			return l.Value
		}
	}
	return ""
}

// Up to four matchers, turned either way, of names and values that entries have and such that they haven't.
func TestP12_1_KeepsAnyMatchers(t *testing.T) {
	r := rand.New(rand.NewSource(121))
	names, values := []string{"a", "b", "c"}, []string{"", "x", "y"}
	pick := func(list []string) string { return list[r.Intn(len(list))] }
	for range 20000 {
		var e api.Entry
		for _, name := range names {
			if r.Intn(2) == 0 {
				e.Labels = append(e.Labels, api.Label{Name: name, Value: pick(values)})
			}
		}
		want := true
		var list []api.Matcher
		for range r.Intn(5) {
			m := api.Matcher{Name: pick(names), Not: r.Intn(2) == 0, Value: pick(values)}
			list = append(list, m)
			if m.Not {
				want = want && valueOf(e, m.Name) != m.Value
			} else {
				want = want && valueOf(e, m.Name) == m.Value
			}
		}
		keeps(t, streams(-1, 1, list...), e, want)
	}
}

// Scans ask for all of these times, whatever they are.
func TestP12_1_KeepsAll(t *testing.T) {
	for _, e := range []api.Entry{line(""), line("a"), line("\n"), line(xs(5000)), entry(5, "\xff", "9", "\n"), entry(5, "", "b", "", "a", "", "b", "")} {
		keeps(t, scans(1, 9), e, true)
		keeps(t, scans(5, 5), e, true)
		keeps(t, scans(6, 4), e, false)
		keeps(t, scans(1, 4), e, false)
		keeps(t, scans(6, 9), e, false)
	}
}
