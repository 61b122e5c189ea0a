package dialect_test

import (
	"errors"
	"fmt"
	"math"
	"reflect"
	"runtime"
	"slices"
	"strings"
	"testing"

	"magpie/api"
	"magpie/dialect"
)

func tokens(from, to int, rows ...[]string) api.TokenAsk {
	return api.TokenAsk{From: from, To: to, All: rows}
}

func streams(from, to int, list ...api.Matcher) api.StreamAsk {
	return api.StreamAsk{From: from, To: to, Match: list}
}

func scans(from, to int) api.ScanAsk { return api.ScanAsk{From: from, To: to} }

func row(words ...string) []string { return words }

func is(name, value string) api.Matcher { return api.Matcher{Name: name, Value: value} }

func isnt(name, value string) api.Matcher {
	return api.Matcher{Name: name, Not: true, Value: value}
}

func xs(n int) string { return strings.Repeat("x", n) }

// same: field by field, whether two are the same question, or both are nil; nobody's are held against each other as they are.
func same(a, b any) bool {
	switch x := a.(type) {
	case api.TokenAsk:
		y, ok := b.(api.TokenAsk)
		return ok && x.From == y.From && x.To == y.To && slices.EqualFunc(x.All, y.All, slices.Equal)
	case api.StreamAsk:
		y, ok := b.(api.StreamAsk)
		return ok && x.From == y.From && x.To == y.To && slices.Equal(x.Match, y.Match)
	}
	return reflect.DeepEqual(a, b)
}

// text tells a question.
func text(ask any) string { return fmt.Sprintf("%.300s", fmt.Sprintf("%T %+q", ask, ask)) }

// mine and holder are other types, though they look like questions.
type mine api.ScanAsk

func (mine) Error() string { return "mine" }

type holder struct{ api.TokenAsk }

// known is a question, its kind, and its times.
type known struct {
	ask      any
	kind     int
	from, to int
}

// asks are questions of all kinds, among them such that can't be.
func asks() []known {
	const most = api.MaxTime
	var out []known
	for _, c := range [][2]int{{0, 0}, {1, 9}, {9, 1}, {-5, 5}, {-most, most}, {most, -most}, {most + 1, -most - 1}, {math.MinInt, math.MaxInt}} {
		from, to := c[0], c[1]
		out = append(out,
			known{tokens(from, to), api.Tokens, from, to},
			known{tokens(from, to, row("a", "b"), row("c"), nil), api.Tokens, from, to},
			known{tokens(from, to, row(xs(5000), "\xff\n", "")), api.Tokens, from, to},
			known{streams(from, to), api.Streams, from, to},
			known{streams(from, to, is("app", "x"), isnt("env", "")), api.Streams, from, to},
			known{streams(from, to, is("", "\n"), isnt("9", "\xff"), is("a", ""), is("a", ""), is("a", "")), api.Streams, from, to},
			known{scans(from, to), api.Scans, from, to},
		)
	}
	return out
}

// nobodys are values that are no question.
func nobodys() []any {
	a, b, c := tokens(1, 9, row("a")), streams(1, 9, is("a", "x")), scans(1, 9)
	var noA *api.TokenAsk
	var noB *api.StreamAsk
	var noC *api.ScanAsk
	var boxed any = c
	pointer := &c
	return []any{
		nil, &a, &b, &c, noA, noB, noC, &boxed, &pointer, holder{a}, &holder{a}, mine(c), []api.ScanAsk{c}, [1]api.ScanAsk{c}, []any{c}, struct{ From, To int }{1, 9},
		0, 1, 2, 3, -1, uint8(1), 1.5, "", "a", true, 'a', errors.New("a"), struct{}{}, []string{"a"}, [][]string{{"a"}}, []api.Matcher{is("a", "x")}, map[string]int{"a": 1},
		api.Query{From: 1, To: 9, Filter: api.Filter{Op: api.True}, Limit: 5}, api.Request{Ask: c, N: 1}, api.Entry{At: 1}, api.Matcher{Name: "a"}, api.Mark{}, api.Fault{}, api.OK,
	}
}

func TestP12_1_Kind(t *testing.T) {
	for _, c := range asks() {
		if got := dialect.Kind(c.ask); got != c.kind {
			t.Errorf("%s: %d", text(c.ask), got)
		}
	}
	for _, ask := range nobodys() {
		if got := dialect.Kind(ask); got != 0 {
			t.Errorf("%s: %d", text(ask), got)
		}
	}
}

func TestP12_1_Times(t *testing.T) {
	for _, c := range asks() {
		if from, to, ok := dialect.Times(c.ask); from != c.from || to != c.to || !ok {
			t.Errorf("%s: %d, %d, %v", text(c.ask), from, to, ok)
		}
	}
	for _, ask := range nobodys() {
		if from, to, ok := dialect.Times(ask); from != 0 || to != 0 || ok {
			t.Errorf("%s: %d, %d, %v", text(ask), from, to, ok)
		}
	}
}

// mustPanics answers what Must of a value panics with; nil: it doesn't.
func mustPanics[T any](ask any) (was error) {
	defer func() { was, _ = recover().(error) }()
	dialect.Must[T](ask)
	return nil
}

// asked asks whether a value is answered as one of type T just if it should.
func asked[T any](t *testing.T, ask any, want bool) {
	t.Helper()
	var none T
	got, ok := dialect.As[T](ask)
	if ok != want {
		t.Errorf("%s as %T: %v", text(ask), none, ok)
	}
	if !want {
		if !reflect.DeepEqual(got, none) {
			t.Errorf("%s as %T: %s beside false", text(ask), none, text(got))
		}
		var told *runtime.TypeAssertionError
		if err := mustPanics[T](ask); !errors.As(err, &told) {
			t.Errorf("Must of %s as %T tells %v", text(ask), none, err)
		}
		return
	}
	if !same(any(got), ask) {
		t.Errorf("%s as %T: %s", text(ask), none, text(got))
	}
	if err := mustPanics[T](ask); err != nil {
		t.Errorf("Must of %s as %T: %v", text(ask), none, err)
	} else if got := dialect.Must[T](ask); !same(any(got), ask) {
		t.Errorf("Must of %s as %T: %s", text(ask), none, text(got))
	}
}

// Each kind is asked for as each type: itself alone, and any.
func TestP12_1_EachKindAsEachType(t *testing.T) {
	for _, c := range asks() {
		asked[api.TokenAsk](t, c.ask, c.kind == api.Tokens)
		asked[api.StreamAsk](t, c.ask, c.kind == api.Streams)
		asked[api.ScanAsk](t, c.ask, c.kind == api.Scans)
		asked[any](t, c.ask, true)
		asked[*api.TokenAsk](t, c.ask, false)
		asked[*api.StreamAsk](t, c.ask, false)
		asked[*api.ScanAsk](t, c.ask, false)
		asked[mine](t, c.ask, false)
		asked[holder](t, c.ask, false)
		asked[struct{ From, To int }](t, c.ask, false)
		asked[int](t, c.ask, false)
		asked[string](t, c.ask, false)
		asked[[][]string](t, c.ask, false)
		asked[[]api.Matcher](t, c.ask, false)
		asked[map[string]int](t, c.ask, false)
		asked[func()](t, c.ask, false)
		asked[error](t, c.ask, false)
		asked[fmt.Stringer](t, c.ask, false)
	}
}

// No value that is nobody's is a question, nil not even any.
func TestP12_1_NobodysAsEachType(t *testing.T) {
	for _, ask := range nobodys() {
		asked[api.TokenAsk](t, ask, false)
		asked[api.StreamAsk](t, ask, false)
		asked[api.ScanAsk](t, ask, false)
		asked[any](t, ask, ask != nil)
	}
	asked[int](t, nil, false)
	asked[error](t, nil, false)
	asked[fmt.Stringer](t, nil, false)
	asked[*api.ScanAsk](t, nil, false)
	asked[[]string](t, nil, false)
}

// What is of the type that is asked for is answered as it is, whatever it is; where the type has methods, whatever has these.
func TestP12_1_OtherTypes(t *testing.T) {
	a := tokens(1, 9, row("a"))
	if got, ok := dialect.As[*api.TokenAsk](&a); !ok || got != &a || dialect.Must[*api.TokenAsk](&a) != &a {
		t.Errorf("a pointer is %p, not %p", got, &a)
	}
	asked[*api.ScanAsk](t, (*api.ScanAsk)(nil), true)
	asked[*api.StreamAsk](t, (*api.ScanAsk)(nil), false)
	asked[mine](t, mine(scans(1, 9)), true)
	asked[error](t, mine(scans(1, 9)), true)
	asked[fmt.Stringer](t, mine(scans(1, 9)), false)
	asked[holder](t, holder{a}, true)
	asked[int](t, 5, true)
	asked[uint](t, 5, false)
	asked[api.Errno](t, 5, false)
	asked[string](t, "", true)
	asked[error](t, errors.New("a"), true)
	asked[error](t, "a", false)
}

// The panic tells what Go's own assertion tells.
func TestP12_1_MustPanicsAsAnAssertion(t *testing.T) {
	for _, ask := range append(nobodys(), scans(1, 9), streams(1, 9)) {
		own := func() (was error) {
			defer func() { was, _ = recover().(error) }()
			_ = ask.(api.TokenAsk)
			return nil
		}()
		got := mustPanics[api.TokenAsk](ask)
		if got == nil || own == nil || got.Error() != own.Error() {
			t.Errorf("%s: %v, not %v", text(ask), got, own)
		}
	}
}
