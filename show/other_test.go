package show_test

import (
	"math"
	"math/rand"
	"slices"
	"strings"
	"testing"

	"magpie/api"
	"magpie/show"
)

// texts are such as a Text says, and such as none does.
var texts = []string{"", "a", `"`, `\`, "\n", "\xff", "a\nb", "é\xc3", "\ufffd", " ", strings.Repeat("\xff", 5000)}

// names are such as labels have, and such as none has.
var names = []string{"", "k", "9", "from", "a b", "é", "\n", "\xff", `"`, strings.Repeat("n", 5000)}

// numbers are such as queries have, and such as none has.
var numbers = []int{0, 1, -1, 51, 1<<40 + 1, -1<<40 - 1, math.MaxInt, math.MinInt}

// ends asks that all calls end; of what they answer here nothing is promised.
func ends(q api.Query) {
	show.Filter(q.Filter)
	show.Plain(q)
	show.Query(q)
}

func pick[T any](r *rand.Rand, list []T) T { return list[r.Intn(len(list))] }

// anyFilter is a filter of any kind and parts.
func anyFilter(r *rand.Rand, depth int) api.Filter {
	f := api.Filter{Op: r.Intn(12) - 1, Name: pick(r, names), Text: pick(r, texts)}
	if depth > 0 {
		for range r.Intn(4) {
			f.Kids = append(f.Kids, anyFilter(r, depth-1))
		}
	}
	return f
}

func TestP8_1_OfOthersCallsEnd(t *testing.T) {
	ends(api.Query{})
	for _, op := range append([]int{math.MinInt, math.MaxInt, -1, 0, 9, 10, 99}, 1, 2, 3, 4, 5, 6, 7, 8) {
		for _, kids := range [][]api.Filter{nil, {}, {{}}, {yes()}, {{Op: op}, {Op: op}}, {and(), or(), not(yes())}, {and(or(not(and(yes()))))}} {
			for _, text := range texts {
				f := api.Filter{Op: op, Name: text, Text: text, Kids: kids}
				ends(api.Query{Filter: f})
				ends(api.Query{Filter: not(f)})
				ends(api.Query{Filter: and(f, f)})
				ends(api.Query{Filter: or(f)})
			}
		}
	}
	for _, n := range numbers {
		ends(api.Query{From: n, To: -n, Filter: yes(), Limit: n})
		ends(api.Query{From: n, To: n, Limit: -n, Desc: true})
	}
	many := slices.Repeat([]api.Matcher{{Name: "\n", Not: true, Value: "\xff"}, {}}, 5000)
	ends(api.Query{Match: many, Filter: yes(), Page: "\xff\n"})
}

func TestP8_1_OfAnyCallsEnd(t *testing.T) {
	r := rand.New(rand.NewSource(8))
	for range 3000 {
		q := api.Query{From: pick(r, numbers), To: pick(r, numbers), Filter: anyFilter(r, r.Intn(6)), Desc: r.Intn(2) == 0, Limit: pick(r, numbers), Page: pick(r, texts)}
		for range r.Intn(7) {
			q.Match = append(q.Match, api.Matcher{Name: pick(r, names), Not: r.Intn(2) == 0, Value: pick(r, texts)})
		}
		ends(q)
	}
}

// Rows that stand as deep as anything may.
func TestP8_1_OfDeepestCallsEnd(t *testing.T) {
	for _, op := range []int{api.Not, api.And, api.Or, 0, 9} {
		f := api.Filter{Op: op}
		for range 1 << 16 {
			f = of(op, f)
		}
		ends(api.Query{Filter: f})
	}
}
