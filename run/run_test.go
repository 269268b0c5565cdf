package run_test

import (
	"math"
	"math/big"
	"math/rand"
	"slices"
	"strings"
	"testing"

	"towncrier/api"
	"towncrier/index"
	"towncrier/query"
	"towncrier/run"
)

func number(n int) api.Value  { return api.Value{Kind: api.Int, N: n} }
func truth(n int) api.Value   { return api.Value{Kind: api.Bool, N: n} }
func text(s string) api.Value { return api.Value{Kind: api.Bytes, S: s} }
func moment(n int) api.Value  { return api.Value{Kind: api.Time, N: n} }

func push(v api.Value) api.Op { return api.Op{Code: api.Push, V: v} }
func load(at int) api.Op      { return api.Op{Code: api.Load, Arg: at} }
func do(code int) api.Op      { return api.Op{Code: code} }

// parts is an expression of these parts.
func parts(l ...api.Op) []api.Op { return l }

// below asks whether the first value is less than a number.
func below(n int) []api.Op { return parts(load(0), push(number(n)), do(api.Less)) }

// step is a step of a name, taken so often.
func step(name string, least, most int, ops ...api.Op) api.Step {
	return api.Step{Name: name, If: ops, Min: least, Max: most}
}

// once is a step of a name, taken once.
func once(name string, ops ...api.Op) api.Step { return step(name, 1, 1, ops...) }

// guarded is a step with a guard.
func guarded(s api.Step, name string, ops ...api.Op) api.Step {
	s.Guard, s.NotName, s.NotIf = true, name, ops
	return s
}

// within is a query of these steps, within that time, of which nothing is told.
func within(time int, steps ...api.Step) api.Query {
	return api.Query{Steps: steps, Within: time, AggStep: -1}
}

// telling is the same query, of which that is told.
func telling(q api.Query, agg, at, field int) api.Query {
	q.Agg, q.AggStep, q.AggF = agg, at, field
	return q
}

// on is an event of these values.
func on(name string, at int, l ...api.Value) api.Event {
	return api.Event{Name: name, At: at, V: l}
}

// standing is a run from the event 7 on, at 10.
func standing(at, often int) api.Run { return api.Run{First: 7, At: 10, Step: at, N: often} }

// what is told of a run.
type tally struct {
	many, agg int
	bad       bool
}

func tallyOf(r api.Run) tally { return tally{r.Many, r.Agg, r.Bad} }

// with is a run of which that is told so far.
func with(r api.Run, t tally) api.Run {
	r.Many, r.Agg, r.Bad = t.many, t.agg, t.bad
	return r
}

// holds tells whether a step takes an event, or, if not is set, forbids it, by the document's words.
func holds(s api.Step, e api.Event, not bool) bool {
	if not {
		return s.Guard && index.Holds(api.Pred{Name: s.NotName, If: s.NotIf}, e)
	}
	return index.Holds(api.Pred{Name: s.Name, If: s.If}, e)
}

// told is what is told, by the document's words.
func told(q api.Query, r api.Run, e api.Event, by int) api.Run {
	if by != q.AggStep {
		return r
	}
	r.Many++
	if q.Agg == 0 {
		r.Agg = r.Many
		return r
	}
	var ints []*int
	for _, v := range e.V {
		n := v.N
		if v.Kind == 0 {
			ints = append(ints, &n)
		} else {
			ints = append(ints, nil)
		}
	}
	if q.AggF < 0 || q.AggF > len(ints)-1 || ints[q.AggF] == nil {
		r.Bad = true
		return r
	}
	x := *ints[q.AggF]
	if q.Agg == 1 {
		both := new(big.Int).Add(big.NewInt(int64(r.Agg)), big.NewInt(int64(x)))
		if both.IsInt64() {
			r.Agg = int(both.Int64())
		} else {
			r.Bad = true
		}
		return r
	}
	if r.Many == 1 || q.Agg == 2 && x < r.Agg || q.Agg != 2 && x > r.Agg {
		r.Agg = x
	}
	return r
}

// whole is which run is whole, by the document's words.
func whole(q api.Query, r api.Run) bool {
	for i, s := range q.Steps {
		if i == r.Step && i+1 == len(q.Steps) && s.Min <= r.N {
			return true
		}
	}
	return false
}

// fate is what became of a run that took something, by the document's words.
func fate(q api.Query, r api.Run) (api.Run, int) {
	if whole(q, r) {
		return r, 2
	}
	return r, 0
}

// begin is Begin by the document's words.
func begin(q api.Query, e api.Event, at int) (api.Run, int) {
	for _, s := range q.Steps {
		if !holds(s, e, false) {
			break
		}
		return fate(q, told(q, api.Run{First: at, At: e.At, Step: 0, N: 1}, e, 0))
	}
	return api.Run{}, 1
}

// tooLate tells whether one time is more than so much later than another one.
func tooLate(at, from, within int) bool {
	later := new(big.Int).Sub(big.NewInt(int64(at)), big.NewInt(int64(from)))
	return later.Cmp(big.NewInt(int64(within))) > 0
}

// next is Next by the document's words.
func next(q api.Query, r api.Run, e api.Event) (api.Run, int) {
	n := len(q.Steps)
	if !(r.Step >= 0 && r.Step < n) {
		return r, 1
	}
	if e.At < r.At {
		return r, 0
	}
	if tooLate(e.At, r.At, q.Within) {
		return r, 1
	}
	if r.N >= q.Steps[r.Step].Min && r.Step != n-1 {
		if holds(q.Steps[r.Step+1], e, true) {
			return r, 1
		}
		if holds(q.Steps[r.Step+1], e, false) {
			r.Step++
			r.N = 1
			return fate(q, told(q, r, e, r.Step))
		}
	}
	if r.N < q.Steps[r.Step].Max && holds(q.Steps[r.Step], e, false) {
		r.N++
		return fate(q, told(q, r, e, r.Step))
	}
	return r, 0
}

// may is May by the document's words.
func may(q api.Query, r api.Run) bool {
	for i, s := range q.Steps {
		if i == r.Step {
			return 1 <= r.N && r.N <= s.Max && !whole(q, r) && 0 <= r.Many
		}
	}
	return false
}

func checkBegin(t *testing.T, q api.Query, e api.Event, at int) (api.Run, int) {
	t.Helper()
	got, fate := run.Begin(q, e, at)
	if want, wantFate := begin(q, e, at); got != want || fate != wantFate {
		t.Fatalf("Begin(%v, %v, %d) = %v, %d, want %v, %d", q, e, at, got, fate, want, wantFate)
	}
	return got, fate
}

func checkNext(t *testing.T, q api.Query, r api.Run, e api.Event) (api.Run, int) {
	t.Helper()
	got, fate := run.Next(q, r, e)
	if want, wantFate := next(q, r, e); got != want || fate != wantFate {
		t.Fatalf("Next(%v, %v, %v) = %v, %d, want %v, %d", q, r, e, got, fate, want, wantFate)
	}
	return got, fate
}

func checkMay(t *testing.T, q api.Query, r api.Run) bool {
	t.Helper()
	got := run.May(q, r)
	if got != may(q, r) {
		t.Fatalf("May(%v, %v) = %v", q, r, got)
	}
	return got
}

// P11.1: Begin, written out.
func TestBeginExamples(t *testing.T) {
	a, b := once("a"), once("b")
	zero, begun := api.Run{}, api.Run{First: 7, At: 10, N: 1}
	for i, x := range []struct {
		q    api.Query
		e    api.Event
		want api.Run
		fate int
	}{
		{within(5, a, b), on("a", 10), begun, api.Stays}, // the document's
		{within(5, a), on("a", 10), begun, api.Done},
		{within(0, a, b), on("a", 10), begun, api.Stays},
		{within(-1, a, b), on("a", 10), begun, api.Stays}, // nothing is later yet
		{within(-1, a), on("a", 10), begun, api.Done},

		{api.Query{}, on("a", 10), zero, api.Gone}, // no step
		{within(5), on("a", 10), zero, api.Gone},
		{within(5, []api.Step{}...), on("", 10), zero, api.Gone},

		{within(5, a, b), on("b", 10), zero, api.Gone}, // it is not taken
		{within(5, a, b), on("aa", 10), zero, api.Gone},
		{within(5, a, b), on("", 10), zero, api.Gone},
		{within(5, a), on("b", 10), zero, api.Gone},
		{within(5, step("a", 0, 4), b), on("b", 10), zero, api.Gone}, // no step is left out
		{within(5, once("a", below(5)...), b), on("a", 10, number(5)), zero, api.Gone},
		{within(5, once("a", below(5)...), b), on("a", 10, number(4)), begun, api.Stays},
		{within(5, once("a", below(5)...)), on("a", 10, number(4)), begun, api.Done},
		{within(5, once("a", below(5)...)), on("a", 10), zero, api.Gone},
		{within(5, once("a", do(99))), on("a", 10), zero, api.Gone},
		{within(5, once("a", push(truth(0)))), on("a", 10), zero, api.Gone},
		{within(5, once("a", push(truth(1)))), on("a", 10), begun, api.Done},

		{within(5, step("a", 2, 2)), on("a", 10), begun, api.Stays}, // how often
		{within(5, step("a", 4, 4)), on("a", 10), begun, api.Stays},
		{within(5, step("a", 1, 4)), on("a", 10), begun, api.Done},
		{within(5, step("a", 0, 0)), on("a", 10), begun, api.Done},
		{within(5, step("a", -1, -1)), on("a", 10), begun, api.Done},
		{within(5, step("a", 1, 0), b), on("a", 10), begun, api.Stays},
		{within(5, step("a", 0, 0), step("b", 0, 0)), on("a", 10), begun, api.Stays},
		{within(5, step("a", math.MaxInt, math.MaxInt)), on("a", 10), begun, api.Stays},
		{within(5, a, a), on("a", 10), begun, api.Stays},

		{within(5, a, guarded(b, "a")), on("a", 10), begun, api.Stays}, // no guard is looked at
		{within(5, guarded(a, "a"), b), on("a", 10), begun, api.Stays},
		{within(5, guarded(a, "a")), on("a", 10), begun, api.Done},
		{within(5, guarded(a, "b")), on("b", 10), zero, api.Gone},

		{within(5, a), on("a", 10, truth(2)), begun, api.Done}, // what may not be
		{within(5, once("")), on("", 10), begun, api.Done},
		{within(5, api.Step{}), on("", 10), begun, api.Done},
	} {
		got, fate := run.Begin(x.q, x.e, 7)
		if got != x.want || fate != x.fate {
			t.Errorf("%d: Begin(%v, %v, 7) = %v, %d, want %v, %d", i, x.q, x.e, got, fate, x.want, x.fate)
		}
		checkBegin(t, x.q, x.e, 7)
	}
}

// P11.1: First is what was handed in, and At the event's, whatever they are.
func TestBeginNumbers(t *testing.T) {
	ends := []int{math.MinInt, -1, 0, 1, 3, 1 << 50, 1<<50 + 1, math.MaxInt}
	for _, first := range ends {
		for _, when := range ends {
			want := api.Run{First: first, At: when, N: 1}
			if got, fate := run.Begin(within(5, once("a"), once("b")), on("a", when), first); got != want || fate != api.Stays {
				t.Errorf("at %d, the event %d begins %v, %d", when, first, got, fate)
			}
			if got, fate := run.Begin(within(5, once("a")), on("a", when), first); got != want || fate != api.Done {
				t.Errorf("at %d, the event %d is all of %v, %d", when, first, got, fate)
			}
			if got, fate := run.Begin(within(5, once("a")), on("b", when), first); got != (api.Run{}) || fate != api.Gone {
				t.Errorf("at %d, the event %d begins %v, %d, and should not", when, first, got, fate)
			}
		}
	}
}

// P11.2: Next, written out.
func TestNextExamples(t *testing.T) {
	a, b, c := once("a"), once("b"), once("c")
	ab := within(5, a, b)
	many := within(5, step("a", 2, 4), step("b", 2, 3), step("c", 2, 2))
	without := b // it has no guard: what stands there forbids nothing
	without.NotName = "c"
	for i, x := range []struct {
		q    api.Query
		r    api.Run
		e    api.Event
		want api.Run
		fate int
	}{
		{ab, standing(0, 1), on("b", 10), standing(1, 1), api.Done}, // the document's
		{ab, standing(0, 1), on("b", 15), standing(1, 1), api.Done},
		{ab, standing(0, 1), on("b", 16), standing(0, 1), api.Gone},
		{ab, standing(0, 1), on("a", 12), standing(0, 1), api.Stays},
		{ab, standing(0, 1), on("c", 12), standing(0, 1), api.Stays},
		{ab, standing(0, 1), on("a", 16), standing(0, 1), api.Gone},
		{ab, standing(0, 1), on("c", 16), standing(0, 1), api.Gone},

		{ab, standing(-1, 1), on("a", 12), standing(-1, 1), api.Gone}, // no such step
		{ab, standing(2, 1), on("b", 12), standing(2, 1), api.Gone},
		{ab, standing(math.MaxInt, 1), on("b", 12), standing(math.MaxInt, 1), api.Gone},
		{ab, standing(math.MinInt, 1), on("b", 12), standing(math.MinInt, 1), api.Gone},
		{ab, standing(-1, 1), on("a", 9), standing(-1, 1), api.Gone}, // that is ahead of what is too early
		{ab, standing(2, 1), on("a", 9), standing(2, 1), api.Gone},
		{within(5), standing(0, 1), on("a", 12), standing(0, 1), api.Gone},
		{within(5), standing(-1, 1), on("a", 12), standing(-1, 1), api.Gone},
		{api.Query{}, api.Run{}, api.Event{}, api.Run{}, api.Gone},

		{ab, standing(0, 1), on("b", 9), standing(0, 1), api.Stays}, // it is too early
		{within(-1, a, b), standing(0, 1), on("b", 9), standing(0, 1), api.Stays},
		{within(-1, a, b), standing(0, 1), on("b", 10), standing(0, 1), api.Gone},
		{within(0, a, b), standing(0, 1), on("b", 10), standing(1, 1), api.Done},
		{within(0, a, b), standing(0, 1), on("b", 11), standing(0, 1), api.Gone},
		{within(0, a, b), standing(0, 1), on("b", 9), standing(0, 1), api.Stays},
		{within(5, a, guarded(b, "c")), standing(0, 1), on("c", 9), standing(0, 1), api.Stays},
		{many, standing(0, 1), on("a", 9), standing(0, 1), api.Stays},

		{within(5, a, guarded(b, "c")), standing(0, 1), on("c", 10), standing(0, 1), api.Gone}, // what is forbidden
		{within(5, a, guarded(b, "c")), standing(0, 1), on("b", 10), standing(1, 1), api.Done},
		{within(5, a, guarded(b, "c")), standing(0, 1), on("d", 10), standing(0, 1), api.Stays},
		{within(5, a, guarded(b, "b")), standing(0, 1), on("b", 10), standing(0, 1), api.Gone}, // also what would be taken
		{within(5, a, guarded(b, "b", below(5)...)), standing(0, 1), on("b", 10, number(4)), standing(0, 1), api.Gone},
		{within(5, a, guarded(b, "b", below(5)...)), standing(0, 1), on("b", 10, number(5)), standing(1, 1), api.Done},
		{within(5, a, guarded(b, "b", below(5)...)), standing(0, 1), on("b", 10), standing(1, 1), api.Done},
		{within(5, step("a", 1, 3), guarded(b, "a")), standing(0, 1), on("a", 10), standing(0, 1), api.Gone},
		{within(5, step("a", 2, 3), guarded(b, "a")), standing(0, 1), on("a", 10), standing(0, 2), api.Stays}, // the next one is not waited for yet
		{within(5, step("a", 2, 3), guarded(b, "a")), standing(0, 2), on("a", 10), standing(0, 2), api.Gone},
		{within(5, step("a", 2, 3), guarded(b, "c")), standing(0, 1), on("c", 10), standing(0, 1), api.Stays},
		{within(5, step("a", 2, 3), guarded(b, "c")), standing(0, 3), on("c", 10), standing(0, 3), api.Gone},
		{within(5, guarded(a, "c"), b), standing(0, 1), on("c", 10), standing(0, 1), api.Stays}, // the guard of another step
		{within(5, a, guarded(step("b", 2, 2), "c")), standing(1, 1), on("c", 10), standing(1, 1), api.Stays},
		{within(5, a, guarded(step("b", 2, 2), "b")), standing(1, 1), on("b", 10), standing(1, 2), api.Done},
		{within(5, a, b, guarded(c, "d")), standing(0, 1), on("d", 10), standing(0, 1), api.Stays},
		{within(5, a, b, guarded(c, "d")), standing(1, 1), on("d", 10), standing(1, 1), api.Gone},
		{within(5, a, guarded(b, "b"), guarded(c, "d")), standing(1, 1), on("b", 10), standing(1, 1), api.Stays},
		{within(5, a, without), standing(0, 1), on("c", 10), standing(0, 1), api.Stays},

		{within(5, step("a", 1, 3), a), standing(0, 1), on("a", 10), standing(1, 1), api.Done}, // the next one takes ahead of this one
		{within(5, step("a", 1, 3), step("a", 2, 2)), standing(0, 1), on("a", 10), standing(1, 1), api.Stays},
		{within(5, step("a", 2, 3), a), standing(0, 1), on("a", 10), standing(0, 2), api.Stays},
		{within(5, step("a", 2, 3), a), standing(0, 2), on("a", 10), standing(1, 1), api.Done},
		{within(5, step("a", 1, 3), once("a", below(5)...)), standing(0, 1), on("a", 10, number(5)), standing(0, 2), api.Stays},
		{within(5, step("a", 1, 3), once("a", below(5)...)), standing(0, 1), on("a", 10, number(4)), standing(1, 1), api.Done},
		{within(5, step("a", 1, 3, below(5)...), b), standing(0, 1), on("a", 10, number(5)), standing(0, 1), api.Stays},
		{within(5, a, b, c), standing(0, 1), on("c", 10), standing(0, 1), api.Stays}, // no step is left out
		{within(5, a, step("b", 0, 0), c), standing(0, 1), on("c", 10), standing(0, 1), api.Stays},
		{within(5, a, b, c), standing(0, 1), on("b", 10), standing(1, 1), api.Stays},
		{within(5, a, b, c), standing(1, 1), on("a", 10), standing(1, 1), api.Stays},
		{within(5, a, b, c), standing(1, 1), on("c", 10), standing(2, 1), api.Done},

		{many, standing(0, 1), on("b", 10), standing(0, 1), api.Stays}, // how often
		{many, standing(0, 1), on("a", 10), standing(0, 2), api.Stays},
		{many, standing(0, 2), on("a", 10), standing(0, 3), api.Stays},
		{many, standing(0, 3), on("a", 10), standing(0, 4), api.Stays},
		{many, standing(0, 4), on("a", 10), standing(0, 4), api.Stays},
		{many, standing(0, 5), on("a", 10), standing(0, 5), api.Stays},
		{many, standing(0, 2), on("b", 10), standing(1, 1), api.Stays},
		{many, standing(0, 4), on("b", 10), standing(1, 1), api.Stays},
		{many, standing(0, 5), on("b", 10), standing(1, 1), api.Stays},
		{many, standing(1, 1), on("c", 10), standing(1, 1), api.Stays},
		{many, standing(1, 1), on("b", 10), standing(1, 2), api.Stays},
		{many, standing(1, 3), on("b", 10), standing(1, 3), api.Stays},
		{many, standing(1, 2), on("c", 10), standing(2, 1), api.Stays},
		{many, standing(2, 1), on("b", 10), standing(2, 1), api.Stays},
		{many, standing(2, 1), on("c", 10), standing(2, 2), api.Done},

		{many, standing(2, 2), on("c", 10), standing(2, 2), api.Stays}, // of one that is whole already nothing becomes, if nothing is taken
		{many, standing(2, 1), on("c", 16), standing(2, 1), api.Gone},
		{ab, standing(1, 1), on("b", 10), standing(1, 1), api.Stays},
		{within(5, a, step("b", 1, 3)), standing(1, 1), on("b", 10), standing(1, 2), api.Done},
		{within(5, a, step("b", 1, 3)), standing(1, 1), on("c", 10), standing(1, 1), api.Stays},
		{within(5, a, step("b", 3, 4)), standing(1, 1), on("b", 10), standing(1, 2), api.Stays},
		{within(5, a, step("b", 3, 4)), standing(1, 2), on("b", 10), standing(1, 3), api.Done},
		{within(5, a, step("b", 0, 0)), standing(0, 1), on("b", 10), standing(1, 1), api.Done},
		{within(5, a, step("b", -1, -1), c), standing(0, 1), on("b", 10), standing(1, 1), api.Stays},
		{within(5, step("a", 0, 0), b), standing(0, 0), on("b", 10), standing(1, 1), api.Done},
		{within(5, step("a", -2, 0), b), standing(0, -2), on("b", 10), standing(1, 1), api.Done},
		{within(5, step("a", -2, 0), b), standing(0, -3), on("b", 10), standing(0, -3), api.Stays},
		{within(5, step("a", -2, 0), b), standing(0, -3), on("a", 10), standing(0, -2), api.Stays},
		{within(5, step("a", 3, 2), b), standing(0, 2), on("a", 10), standing(0, 2), api.Stays},
		{within(5, step("a", 3, 2), b), standing(0, 2), on("b", 10), standing(0, 2), api.Stays},
		{within(5, step("a", 3, math.MaxInt)), standing(0, math.MaxInt), on("a", 10), standing(0, math.MaxInt), api.Stays},
		{within(5, step("a", 3, math.MaxInt)), standing(0, math.MaxInt-1), on("a", 10), standing(0, math.MaxInt), api.Done},

		{ab, standing(0, 1), on("b", 10, truth(2)), standing(1, 1), api.Done}, // what may not be
		{within(5, a, once("b", push(truth(1)))), standing(0, 1), on("b", 10, truth(2)), standing(0, 1), api.Stays},
		{within(5, a, once("b", do(99))), standing(0, 1), on("b", 10), standing(0, 1), api.Stays},
		{within(5, a, guarded(b, "b", do(99))), standing(0, 1), on("b", 10), standing(1, 1), api.Done},
	} {
		got, fate := run.Next(x.q, x.r, x.e)
		if got != x.want || fate != x.fate {
			t.Errorf("%d: Next(%v, %v, %v) = %v, %d, want %v, %d", i, x.q, x.r, x.e, got, fate, x.want, x.fate)
		}
		checkNext(t, x.q, x.r, x.e)
	}
}

// P11.2: of a and then b, within 5, an a at 3 and a b at 8 match, an a at 3 and a b at 9 do not.
func TestTheDocumentsExample(t *testing.T) {
	q := telling(within(5, once("a"), once("b")), api.Count, 0, 0)
	r, fate := run.Begin(q, on("a", 3), 0)
	if r != (api.Run{At: 3, N: 1, Many: 1, Agg: 1}) || fate != api.Stays {
		t.Fatalf("an a begins %v, %d", r, fate)
	}
	if got, fate := run.Next(q, r, on("b", 8)); got != (api.Run{At: 3, Step: 1, N: 1, Many: 1, Agg: 1}) || fate != api.Done {
		t.Errorf("behind a b at 8 it is %v, %d", got, fate)
	}
	if got, fate := run.Next(q, r, on("b", 9)); got != r || fate != api.Gone {
		t.Errorf("behind a b at 9 it is %v, %d", got, fate)
	}
}

// P11.2: how much later is told rightly, also where that is greater than any int.
func TestNextTimes(t *testing.T) {
	ends := []int{math.MinInt, math.MinInt + 1, -1 << 62, -2, -1, 0, 1, 2, 5, 1 << 50, 1<<50 + 1, 1 << 62, math.MaxInt - 1, math.MaxInt}
	for _, from := range ends {
		for _, at := range ends {
			for _, time := range ends {
				q := within(time, once("a"), once("b"))
				r := api.Run{First: 7, At: from, N: 1}
				got, fate := checkNext(t, q, r, on("b", at))
				switch {
				case at < from:
					if got != r || fate != api.Stays {
						t.Fatalf("from %d, at %d, within %d: %v, %d", from, at, time, got, fate)
					}
				case time < 0 || tooLate(at, from, time):
					if got != r || fate != api.Gone {
						t.Fatalf("from %d, at %d, within %d: %v, %d", from, at, time, got, fate)
					}
				case got != (api.Run{First: 7, At: from, Step: 1, N: 1}) || fate != api.Done:
					t.Fatalf("from %d, at %d, within %d: %v, %d", from, at, time, got, fate)
				}
			}
		}
	}
	for _, x := range []struct{ from, at, within, fate int }{
		{-1, math.MaxInt, math.MaxInt, api.Gone},
		{0, math.MaxInt, math.MaxInt, api.Done},
		{math.MinInt, math.MaxInt, math.MaxInt, api.Gone},
		{math.MinInt, math.MaxInt, 0, api.Gone},
		{math.MinInt, math.MaxInt, -1, api.Gone},
		{math.MinInt, -1, math.MaxInt, api.Done},
		{math.MinInt, 0, math.MaxInt, api.Gone},
		{math.MaxInt, math.MinInt, 0, api.Stays},
		{math.MaxInt, math.MaxInt, 0, api.Done},
		{math.MinInt, math.MinInt, 0, api.Done},
		{math.MinInt, math.MinInt, math.MinInt, api.Gone},
	} {
		if _, fate := run.Next(within(x.within, once("a"), once("b")), api.Run{At: x.from, N: 1}, on("b", x.at)); fate != x.fate {
			t.Errorf("from %d, at %d, within %d: %d, want %d", x.from, x.at, x.within, fate, x.fate)
		}
	}
}

// P11.1, P11.2: what is told of events, one behind the other, written out.
func TestToldExamples(t *testing.T) {
	none := []api.Value(nil)
	ints := func(l ...int) [][]api.Value {
		var out [][]api.Value
		for _, n := range l {
			out = append(out, []api.Value{number(n)})
		}
		return out
	}
	least, most := math.MinInt, math.MaxInt
	for i, x := range []struct {
		agg, field int
		l          [][]api.Value
		want       []tally
	}{
		{api.Count, 0, ints(5, -5, 0), []tally{{1, 1, false}, {2, 2, false}, {3, 3, false}}},
		{api.Count, 0, [][]api.Value{none, {text("x")}, none}, []tally{{1, 1, false}, {2, 2, false}, {3, 3, false}}}, // it asks for no field
		{api.Count, -1, ints(5, 6), []tally{{1, 1, false}, {2, 2, false}}},
		{api.Count, most, ints(5, 6), []tally{{1, 1, false}, {2, 2, false}}},

		{api.Sum, 0, ints(3, -5, 0, 7), []tally{{1, 3, false}, {2, -2, false}, {3, -2, false}, {4, 5, false}}},
		{api.Sum, 0, [][]api.Value{{number(3)}, none, {number(4)}}, []tally{{1, 3, false}, {2, 3, true}, {3, 7, true}}}, // it stays bad
		{api.Sum, 0, [][]api.Value{none, {number(4)}}, []tally{{1, 0, true}, {2, 4, true}}},
		{api.Sum, 0, ints(most, 0, 1, -1), []tally{{1, most, false}, {2, most, false}, {3, most, true}, {4, most - 1, true}}},
		{api.Sum, 0, ints(least, 0, -1, 1), []tally{{1, least, false}, {2, least, false}, {3, least, true}, {4, least + 1, true}}},
		{api.Sum, 0, ints(most, most), []tally{{1, most, false}, {2, most, true}}},
		{api.Sum, 0, ints(least, least), []tally{{1, least, false}, {2, least, true}}}, // together they go round to 0
		{api.Sum, 0, ints(most, least, most), []tally{{1, most, false}, {2, -1, false}, {3, most - 1, false}}},
		{api.Sum, 0, ints(1<<62, 1<<62-1, 1), []tally{{1, 1 << 62, false}, {2, most, false}, {3, most, true}}},
		{api.Sum, 0, ints(-1<<62, -1<<62, -1), []tally{{1, -1 << 62, false}, {2, least, false}, {3, least, true}}},

		{api.Min, 0, ints(5, 7, 5, 3, 4), []tally{{1, 5, false}, {2, 5, false}, {3, 5, false}, {4, 3, false}, {5, 3, false}}},
		{api.Min, 0, ints(-5, -7, 0), []tally{{1, -5, false}, {2, -7, false}, {3, -7, false}}},
		{api.Min, 0, ints(most, least), []tally{{1, most, false}, {2, least, false}}},
		{api.Min, 0, [][]api.Value{none, {number(4)}, {number(-4)}}, []tally{{1, 0, true}, {2, 0, true}, {3, -4, true}}}, // it was 0, and Many is not 1 any more

		{api.Max, 0, ints(5, 3, 5, 7, 4), []tally{{1, 5, false}, {2, 5, false}, {3, 5, false}, {4, 7, false}, {5, 7, false}}},
		{api.Max, 0, ints(-5, -7, 0), []tally{{1, -5, false}, {2, -5, false}, {3, 0, false}}},
		{api.Max, 0, ints(least, most), []tally{{1, least, false}, {2, most, false}}},
		{api.Max, 0, [][]api.Value{none, {number(-4)}, {number(4)}}, []tally{{1, 0, true}, {2, 0, true}, {3, 4, true}}},

		{4, 0, ints(5, 3, 7), []tally{{1, 5, false}, {2, 5, false}, {3, 7, false}}}, // none of the four
		{-1, 0, ints(5, 3, 7), []tally{{1, 5, false}, {2, 5, false}, {3, 7, false}}},
		{most, 0, ints(-5, -7, -3), []tally{{1, -5, false}, {2, -5, false}, {3, -3, false}}},
		{least, 0, ints(-5, -7, -3), []tally{{1, -5, false}, {2, -5, false}, {3, -3, false}}},
		{-1, 0, [][]api.Value{none, {number(3)}}, []tally{{1, 0, true}, {2, 3, true}}},

		{api.Sum, 1, [][]api.Value{{number(3), number(4)}, {number(5)}, {text("x"), number(1)}}, []tally{{1, 4, false}, {2, 4, true}, {3, 5, true}}}, // which field
		{api.Max, 5, [][]api.Value{{number(0), number(0), number(0), number(0), number(0), number(9)}}, []tally{{1, 9, false}}},
		{api.Max, 6, [][]api.Value{slices.Repeat([]api.Value{number(9)}, 6), slices.Repeat([]api.Value{number(9)}, 7)}, []tally{{1, 0, true}, {2, 9, true}}},
		{api.Sum, -1, ints(3), []tally{{1, 0, true}}},
		{api.Min, least, ints(3), []tally{{1, 0, true}}},
		{api.Max, most, ints(3), []tally{{1, 0, true}}},
		{api.Sum, 1, ints(3), []tally{{1, 0, true}}},

		{api.Sum, 0, [][]api.Value{{truth(1)}, {moment(5)}, {text("5")}, {{Kind: 4, N: 5}}, {{Kind: -1, N: 5}}}, []tally{{1, 0, true}, {2, 0, true}, {3, 0, true}, {4, 0, true}, {5, 0, true}}}, // no Int
		{api.Min, 0, [][]api.Value{{moment(5)}, {number(-5)}, {truth(0)}}, []tally{{1, 0, true}, {2, -5, true}, {3, -5, true}}},
		{api.Max, 0, [][]api.Value{{{Kind: api.Int, N: 5, S: "x"}}, {number(6), truth(2)}}, []tally{{1, 5, false}, {2, 6, false}}}, // what may not be, but is an Int
	} {
		q := telling(within(5, step("a", 9, 9), once("b")), x.agg, 0, x.field)
		r, fate := checkBegin(t, q, on("a", 10, x.l[0]...), 7)
		for k := range x.l {
			if k > 0 {
				r, fate = checkNext(t, q, r, on("a", 10, x.l[k]...))
			}
			if want := with(standing(0, k+1), x.want[k]); r != want || fate != api.Stays {
				t.Errorf("%d: behind the event %d it is %v, %d, want %v", i, k, r, fate, want)
			}
		}
	}
}

// P11.2: what was told so far is gone on with, whatever it is; Many goes round (R7).
func TestToldFrom(t *testing.T) {
	least, most := math.MinInt, math.MaxInt
	for i, x := range []struct {
		agg  int
		from tally
		n    int
		want tally
	}{
		{api.Count, tally{4, 9, true}, 5, tally{5, 5, true}},
		{api.Count, tally{most, 9, false}, 5, tally{least, least, false}},
		{api.Count, tally{-1, 9, false}, 5, tally{0, 0, false}},
		{api.Sum, tally{0, 9, false}, 5, tally{1, 14, false}}, // together with what is there, also if it is the first one
		{api.Sum, tally{0, most - 5, true}, 5, tally{1, most, true}},
		{api.Sum, tally{most, 9, false}, 5, tally{least, 14, false}},
		{api.Min, tally{0, 4, false}, 5, tally{1, 5, false}}, // the first one, whatever is there
		{api.Min, tally{1, 4, false}, 5, tally{2, 4, false}},
		{api.Min, tally{-1, 4, false}, 5, tally{0, 4, false}},
		{api.Min, tally{-2, 6, false}, 5, tally{-1, 5, false}},
		{api.Max, tally{0, 6, false}, 5, tally{1, 5, false}},
		{api.Max, tally{1, 6, false}, 5, tally{2, 6, false}},
		{api.Max, tally{-1, 6, true}, 5, tally{0, 6, true}},
		{api.Max, tally{most, 4, false}, 5, tally{least, 5, false}},
		{7, tally{0, 6, false}, 5, tally{1, 5, false}},
		{7, tally{1, 6, false}, 5, tally{2, 6, false}},
	} {
		q := telling(within(5, step("a", 1, 9), once("b")), x.agg, 0, 0)
		got, fate := checkNext(t, q, with(standing(0, 2), x.from), on("a", 10, number(x.n)))
		if want := with(standing(0, 3), x.want); got != want || fate != api.Stays {
			t.Errorf("%d: it is %v, %d, want %v", i, got, fate, want)
		}
	}
}

// P11.1, P11.2: it is told just where the step that takes the event is the one that is told of.
func TestToldOfStep(t *testing.T) {
	five, before := []api.Value{number(5)}, tally{2, 20, false}
	after, first := tally{3, 25, false}, tally{1, 5, false}
	for at := -2; at < 6; at++ {
		q := telling(within(5, step("a", 1, 3), guarded(step("b", 1, 3), "d"), step("c", 2, 2)), api.Sum, at, 0)
		want := func(told bool, t tally) tally {
			if told {
				return t
			}
			return before
		}
		for i, x := range []struct {
			r, want api.Run
			e       api.Event
		}{
			{standing(0, 1), with(standing(0, 2), want(at == 0, after)), on("a", 10, five...)},
			{standing(0, 1), with(standing(1, 1), want(at == 1, after)), on("b", 10, five...)},
			{standing(1, 1), with(standing(1, 2), want(at == 1, after)), on("b", 10, five...)},
			{standing(1, 1), with(standing(2, 1), want(at == 2, after)), on("c", 10, five...)},
			{standing(2, 1), with(standing(2, 2), want(at == 2, after)), on("c", 10, five...)},
			{standing(0, 1), with(standing(0, 1), before), on("c", 10, five...)}, // nothing is taken
			{standing(0, 3), with(standing(0, 3), before), on("a", 10, five...)},
			{standing(0, 1), with(standing(0, 1), before), on("a", 9, five...)},
			{standing(0, 1), with(standing(0, 1), before), on("a", 16, five...)},
			{standing(0, 1), with(standing(0, 1), before), on("d", 10, five...)},
			{standing(1, 1), with(standing(1, 1), before), on("a", 10, five...)},
		} {
			if got, _ := checkNext(t, q, with(x.r, before), x.e); got != x.want {
				t.Errorf("of the step %d, %d: it is %v, want %v", at, i, got, x.want)
			}
		}
		begun := tally{}
		if at == 0 {
			begun = first
		}
		if got, _ := checkBegin(t, q, on("a", 10, five...), 7); got != with(standing(0, 1), begun) {
			t.Errorf("of the step %d: it begins as %v", at, got)
		}
	}
	for _, at := range []int{math.MinInt, math.MaxInt} {
		q := telling(within(5, once("a"), once("b")), api.Count, at, 0)
		r, _ := checkBegin(t, q, on("a", 10), 7)
		if r, _ = checkNext(t, q, r, on("b", 10)); r != standing(1, 1) {
			t.Errorf("of the step %d: it is %v", at, r)
		}
	}
}

// P11.2: also what is done tells of its last event, and what is told makes no run done, nor gone.
func TestToldOfLast(t *testing.T) {
	q := telling(within(5, once("a"), step("b", 2, 2)), api.Min, 1, 0)
	r, fate := checkNext(t, q, standing(0, 1), on("b", 10))
	if r != with(standing(1, 1), tally{1, 0, true}) || fate != api.Stays {
		t.Errorf("it is %v, %d", r, fate)
	}
	r, fate = checkNext(t, q, r, on("b", 11, number(-3)))
	if r != with(standing(1, 2), tally{2, -3, true}) || fate != api.Done {
		t.Errorf("it is %v, %d", r, fate)
	}
	q = telling(within(5, once("a")), api.Sum, 0, 0)
	if r, fate := checkBegin(t, q, on("a", 10, number(4)), 7); r != with(standing(0, 1), tally{1, 4, false}) || fate != api.Done {
		t.Errorf("it is %v, %d", r, fate)
	}
	if r, fate := checkBegin(t, q, on("a", 10), 7); r != with(standing(0, 1), tally{1, 0, true}) || fate != api.Done {
		t.Errorf("it is %v, %d", r, fate)
	}
}

// P11.1, P11.2: sums near both ends are what whole numbers without bounds tell.
func TestSums(t *testing.T) {
	var l []int
	for _, end := range []int{math.MinInt, -1 << 62, -1 << 31, 0, 1 << 31, 1 << 62, math.MaxInt} {
		for off := -2; off <= 2; off++ {
			l = append(l, end+off) // some go round, to the other end
		}
	}
	q := telling(within(5, step("a", 1, 9), once("b")), api.Sum, 0, 0)
	var bad int
	for _, a := range l {
		r, _ := checkBegin(t, q, on("a", 10, number(a)), 7)
		if r.Agg != a || r.Bad {
			t.Fatalf("of %d alone it is %v", a, r)
		}
		for _, b := range l {
			got, _ := checkNext(t, q, r, on("a", 10, number(b)))
			if got.Bad {
				bad++
			}
			if got.Bad && got.Agg != a || !got.Bad && got.Agg-b != a {
				t.Fatalf("of %d and %d it is %v", a, b, got)
			}
		}
	}
	if bad < 100 {
		t.Errorf("just %d were too great", bad)
	}
}

// P11.3: May, written out.
func TestMayExamples(t *testing.T) {
	a := once("a")
	q := within(5, step("a", 2, 4), step("b", 1, 2), step("c", 3, 3))
	told := func(r api.Run, many int) api.Run { return with(r, tally{many, -5, true}) }
	for i, x := range []struct {
		q    api.Query
		r    api.Run
		want bool
	}{
		{q, standing(0, 1), true},
		{q, standing(0, 4), true},
		{q, standing(1, 1), true},
		{q, standing(1, 2), true},
		{q, standing(2, 1), true},
		{q, standing(2, 2), true},
		{q, api.Run{First: -1, At: -1, N: 1}, true}, // of these nothing is asked
		{q, api.Run{First: math.MinInt, At: math.MaxInt, N: 1, Agg: math.MinInt, Bad: true}, true},
		{within(-1, a, a), standing(0, 1), true},
		{within(5, step("a", 2, 2)), standing(0, 1), true},
		{within(5, step("a", 3, 2)), standing(0, 2), true},

		{q, standing(-1, 1), false}, // no such step
		{q, standing(3, 1), false},
		{q, standing(math.MinInt, 1), false},
		{q, standing(math.MaxInt, 1), false},
		{within(5), standing(0, 1), false},
		{within(5), standing(-1, 1), false},
		{api.Query{}, api.Run{}, false},
		{api.Query{}, standing(-1, 1), false},

		{q, standing(0, 0), false}, // how often
		{q, standing(0, -1), false},
		{q, standing(0, 5), false},
		{q, standing(1, 0), false},
		{q, standing(1, 3), false},
		{q, standing(2, 0), false},
		{q, standing(0, math.MinInt), false},
		{q, standing(0, math.MaxInt), false},
		{q, api.Run{}, false},
		{within(5, step("a", 0, 0), a), standing(0, 1), false},
		{within(5, step("a", 0, 0), a), standing(0, 0), false},
		{within(5, step("a", 0, -1), a), standing(0, 1), false},

		{q, standing(2, 3), false}, // it is whole
		{q, standing(2, 4), false},
		{within(5, a), standing(0, 1), false},
		{within(5, step("a", 1, 3)), standing(0, 1), false},
		{within(5, step("a", 2, 3)), standing(0, 2), false},
		{within(5, step("a", 2, 3)), standing(0, 3), false},
		{within(5, step("a", 0, 3)), standing(0, 1), false},
		{within(5, step("a", 1, 1), step("b", -1, 3)), standing(1, 1), false},

		{q, told(standing(0, 1), 0), true}, // how many
		{q, told(standing(0, 1), 1), true},
		{q, told(standing(0, 1), math.MaxInt), true},
		{q, told(standing(0, 1), -1), false},
		{q, told(standing(2, 2), -1), false},
		{q, told(standing(0, 1), math.MinInt), false},
	} {
		if got := run.May(x.q, x.r); got != x.want {
			t.Errorf("%d: May(%v, %v) = %v", i, x.q, x.r, got)
		}
		checkMay(t, x.q, x.r)
	}
}

// P11.3: May is what the document's words say, of each step, and how often it was taken.
func TestMay(t *testing.T) {
	var so, not int
	for least := -1; least <= 5; least++ {
		for most := -1; most <= 5; most++ {
			for steps := range 4 {
				q := within(5, slices.Repeat([]api.Step{step("a", least, most)}, steps)...)
				for at := -2; at <= 4; at++ {
					for often := -2; often <= 6; often++ {
						for many := -1; many <= 1; many++ {
							if checkMay(t, q, with(standing(at, often), tally{many: many})) {
								so++
							} else {
								not++
							}
						}
					}
				}
			}
		}
	}
	if so < 500 || not < 500 {
		t.Errorf("%d may be, and %d may not", so, not)
	}
}

// names are few, so that often one is asked for twice.
var names = []string{"a", "b", "c", ""}

// ifs are expressions: so, not so, by the event, of an error, and such as may not be.
func ifs() [][]api.Op {
	return [][]api.Op{nil, nil, nil, nil, below(5), below(2), parts(load(1)), parts(push(truth(0))), parts(do(99))}
}

// ends are numbers at which something may go wrong.
var ends = []int{math.MinInt, math.MinInt + 1, -2, -1, 0, 1, 2, 3, 4, 5, 6, 1 << 50, math.MaxInt - 1, math.MaxInt}

// some is mostly a number from least to most, and sometimes one of ends.
func some(r *rand.Rand, least, most int) int {
	if r.Intn(12) == 0 {
		return ends[r.Intn(len(ends))]
	}
	return least + r.Intn(most-least+1)
}

// someValue is mostly an Int.
func someValue(r *rand.Rand) api.Value {
	l := []api.Value{truth(1), truth(0), text("x"), moment(3), {Kind: 4, N: 3}, {N: 3, S: "x"}, truth(2)}
	if r.Intn(3) == 0 {
		return l[r.Intn(len(l))]
	}
	return number(some(r, -6, 6))
}

// someEvent is one of a time from 5 to 20, mostly.
func someEvent(r *rand.Rand) api.Event {
	e := on(names[r.Intn(len(names))>>r.Intn(3)], some(r, 5, 20))
	for range r.Intn(4) {
		e.V = append(e.V, someValue(r))
	}
	return e
}

// someStep is a step, well made or not.
func someStep(r *rand.Rand) api.Step {
	l := ifs()
	pick := func() (string, []api.Op) { return names[r.Intn(len(names))>>r.Intn(3)], l[r.Intn(len(l))] }
	s := api.Step{Min: some(r, 0, 3), Max: some(r, 0, 4), Guard: r.Intn(3) == 0}
	s.Name, s.If = pick()
	if s.Guard || r.Intn(3) == 0 {
		s.NotName, s.NotIf = pick()
	}
	return s
}

// someQuery is a query, well made or not.
func someQuery(r *rand.Rand) api.Query {
	q := api.Query{Within: some(r, 0, 20), Agg: some(r, 0, 3), AggStep: some(r, 0, 3), AggF: some(r, 0, 2)}
	for range r.Intn(6) {
		q.Steps = append(q.Steps, someStep(r))
	}
	return q
}

// someRun is a run that may be, of some query, or not.
func someRun(r *rand.Rand) api.Run {
	return api.Run{
		First: some(r, 0, 9), At: some(r, 0, 12), Step: some(r, 0, 3), N: some(r, 0, 4),
		Many: some(r, 0, 4), Agg: some(r, -9, 9), Bad: r.Intn(3) == 0,
	}
}

// goodQuery is a query that is well made.
func goodQuery(r *rand.Rand) api.Query {
	good := []string{"a", "b", "c"}
	l := ifs()[:8]
	n := 1 + r.Intn(4)
	q := api.Query{Within: r.Intn(30), Agg: r.Intn(4), AggStep: r.Intn(n)}
	if q.Agg != api.Count {
		q.AggF = r.Intn(2)
	}
	for i := range n {
		least := 1 + r.Intn(4)
		s := step(good[r.Intn(3)], least, least+r.Intn(5-least), l[r.Intn(len(l))]...)
		if i == n-1 {
			s.Max = s.Min
		}
		if i > 0 && r.Intn(3) == 0 {
			s = guarded(s, good[r.Intn(3)], l[r.Intn(len(l))]...)
		}
		q.Steps = append(q.Steps, s)
	}
	return q
}

// P11.1: Begin is what the document's words say, of any query and event.
func TestBegin(t *testing.T) {
	r := rand.New(rand.NewSource(111))
	var fates [api.Fates]int
	for range 100000 {
		_, fate := checkBegin(t, someQuery(r), someEvent(r), some(r, 0, 9))
		fates[fate]++
	}
	for fate, n := range fates {
		if n < 1000 {
			t.Errorf("just %d times it was %d", n, fate)
		}
	}
}

// P11.2: Next is what the document's words say, of any query, run and event.
func TestNext(t *testing.T) {
	r := rand.New(rand.NewSource(112))
	var fates [api.Fates]int
	var moved, grew, bad int
	for range 400000 {
		q, from := someQuery(r), someRun(r)
		got, fate := checkNext(t, q, from, someEvent(r))
		fates[fate]++
		if got.Step != from.Step {
			moved++
		} else if got.N != from.N {
			grew++
		}
		if got.Bad && !from.Bad {
			bad++
		}
	}
	for fate, n := range fates {
		if n < 1000 {
			t.Errorf("just %d times it was %d", n, fate)
		}
	}
	if moved < 5000 || grew < 5000 || bad < 1000 {
		t.Errorf("it moved %d times, grew %d times, and became bad %d times", moved, grew, bad)
	}
}

// P11.2: run by run, from Begin on, all is what the document's words say.
func TestRuns(t *testing.T) {
	r := rand.New(rand.NewSource(113))
	var done int
	for range 30000 {
		q := goodQuery(r)
		from, fate := checkBegin(t, q, someEvent(r), 3)
		for k := 0; k < 30 && fate == api.Stays; k++ {
			from, fate = checkNext(t, q, from, someEvent(r))
		}
		if fate == api.Done {
			done++
		}
	}
	if done < 1000 {
		t.Errorf("just %d were done", done)
	}
}

// allMaxes is how often all steps are taken, at most.
func allMaxes(q api.Query) int {
	n := 0
	for _, s := range q.Steps {
		n += s.Max
	}
	return n
}

// P11.4: a run that may be stays so, till it is gone, or done.
func TestMayStays(t *testing.T) {
	r := rand.New(rand.NewSource(114))
	var stayed, ended int
	for range 100000 {
		q := goodQuery(r)
		if _, is := query.Put(q); !is {
			t.Fatalf("%v is not well made", q)
		}
		from, fate := run.Begin(q, someEvent(r), some(r, 0, 9))
		if r.Intn(2) == 0 { // any other one that may be
			from, fate = someRun(r), api.Stays
			if !run.May(q, from) {
				continue
			}
			from.Many = min(from.Many, 9) // it would go round
		}
		for k := 0; k < 20 && fate == api.Stays; k++ {
			if !checkMay(t, q, from) {
				t.Fatalf("of %v there is %v", q, from)
			}
			from, fate = run.Next(q, from, someEvent(r))
			stayed++
		}
		if fate == api.Done {
			ended++
			if run.May(q, from) {
				t.Fatalf("of %v, %v is done, and may be", q, from)
			}
		}
	}
	if stayed < 10000 || ended < 1000 {
		t.Errorf("it stayed %d times, and %d were done", stayed, ended)
	}
}

// P11.4: a run is done behind no more events that it takes than all Maxes together, and no fewer than all Mins.
func TestDoneInTime(t *testing.T) {
	r := rand.New(rand.NewSource(115))
	var done, most int
	for range 60000 {
		q := goodQuery(r)
		from, fate := run.Begin(q, someEvent(r), 3)
		took := 1
		for k := 0; k < 60 && fate == api.Stays; k++ {
			var next api.Run
			next, fate = run.Next(q, from, someEvent(r))
			if next != from {
				took++
			}
			from = next
		}
		if fate == api.Gone {
			continue
		}
		least := 0
		for _, s := range q.Steps {
			least += s.Min
		}
		if took > allMaxes(q) || fate == api.Done && took < least {
			t.Fatalf("of %v a run took %d events: %v, %d", q, took, from, fate)
		}
		if fate == api.Done {
			done++
			if took == allMaxes(q) && allMaxes(q) > least {
				most++
			}
		}
	}
	if done < 1000 || most < 50 {
		t.Errorf("%d were done, %d of them behind all Maxes", done, most)
	}
}

// P11.4: with four steps, each taken as often as may be, it is done behind sixteen events; with three, each taken once, behind three.
func TestDoneBehindAll(t *testing.T) {
	l := []api.Step{step("a", 1, 4), step("b", 1, 4), step("c", 1, 4), step("d", 4, 4)}
	q := telling(within(100, l...), api.Count, 3, 0)
	r, fate := run.Begin(q, on("a", 0), 0)
	took := 1
	for _, s := range l {
		for k := range 4 {
			if s.Name == "a" && k == 0 {
				continue
			}
			if fate != api.Stays || !run.May(q, r) {
				t.Fatalf("behind %d events it is %v, %d", took, r, fate)
			}
			r, fate = run.Next(q, r, on(s.Name, took))
			took++
		}
	}
	if r != (api.Run{Step: 3, N: 4, Many: 4, Agg: 4}) || fate != api.Done || took != allMaxes(q) {
		t.Errorf("behind %d events it is %v, %d", took, r, fate)
	}
	q.Steps = []api.Step{step("a", 1, 4), step("b", 1, 4), once("c")}
	r, _ = run.Begin(q, on("a", 0), 0)
	r, _ = run.Next(q, r, on("b", 1))
	if r, fate = run.Next(q, r, on("c", 2)); r != (api.Run{Step: 2, N: 1}) || fate != api.Done {
		t.Errorf("behind three events it is %v, %d", r, fate)
	}
}

// R1: any numbers, also at both ends, at each place.
func TestAnyNumbers(t *testing.T) {
	r := rand.New(rand.NewSource(116))
	end := func() int { return ends[r.Intn(len(ends))] }
	for range 100000 {
		q := api.Query{Within: end(), Agg: end(), AggStep: end(), AggF: end()}
		for range r.Intn(4) {
			s := someStep(r)
			s.Min, s.Max = end(), end()
			q.Steps = append(q.Steps, s)
		}
		e := someEvent(r)
		e.At = end()
		for i := range e.V {
			e.V[i].N, e.V[i].Kind = end(), end()
		}
		from := api.Run{First: end(), At: end(), Step: r.Intn(5) - 1, N: end(), Many: end(), Agg: end()}
		checkBegin(t, q, e, end())
		checkNext(t, q, from, e)
		checkMay(t, q, from)
		from.Step = end()
		checkNext(t, q, from, e)
		checkMay(t, q, from)
	}
}

// R1: many steps, long names and expressions, many values.
func TestLongArguments(t *testing.T) {
	long := strings.Repeat("a", 1<<20)
	q := within(5, slices.Repeat([]api.Step{guarded(once(long, slices.Repeat(parts(push(truth(1))), 1<<16)...), long)}, 1<<12)...)
	if got, fate := run.Begin(q, on(long, 10), 7); got != (api.Run{}) || fate != api.Gone {
		t.Errorf("a long one begins %v, %d", got, fate)
	}
	if got, fate := run.Next(q, standing(0, 1), on(long, 10)); got != standing(0, 1) || fate != api.Gone {
		t.Errorf("a long one is behind it %v, %d", got, fate)
	}
	many := telling(within(5, slices.Repeat([]api.Step{once("a")}, 1<<16)...), api.Max, 1<<16-1, 1<<16-1)
	vs := slices.Repeat([]api.Value{number(3)}, 1<<16)
	r, fate := run.Begin(many, on("a", 10, vs...), 7)
	for range 1<<16 - 1 {
		if fate != api.Stays || !run.May(many, r) {
			t.Fatalf("of many steps it is %v, %d", r, fate)
		}
		r, fate = run.Next(many, r, on("a", 10, vs...))
	}
	if r != with(standing(1<<16-1, 1), tally{1, 3, false}) || fate != api.Done {
		t.Errorf("of many steps it is %v, %d", r, fate)
	}
}

// R3, R5: what is handed in stays as it was, and what was asked before changes nothing.
func TestNothingKept(t *testing.T) {
	ops := append(below(5), do(api.Not), load(4))
	vs := []api.Value{number(4), number(9), text("x")}
	steps := []api.Step{step("a", 1, 3, ops[:3]...), guarded(step("b", 1, 3, ops[:3]...), "c", ops[:3]...), step("c", 2, 2), once("d")}
	q := telling(within(5, steps[:3]...), api.Sum, 1, 0)
	other := telling(within(9, once("a"), once("b")), api.Max, 0, 1)
	var first []api.Run
	for round := range 3 {
		var l []api.Run
		for _, name := range []string{"a", "b", "c", "d"} {
			e := on(name, 10, vs[:1]...)
			begun, fate := run.Begin(q, e, 7)
			l = append(l, begun, api.Run{N: fate})
			for at := range 3 {
				next, fate := run.Next(q, standing(at, 1), e)
				l = append(l, next, api.Run{N: fate})
				run.May(q, standing(at, 1))
			}
			run.Begin(other, e, round)
			run.Next(other, standing(0, 1), e)
		}
		if round == 0 {
			first = l
		}
		if !slices.Equal(l, first) {
			t.Errorf("there is %v, and then %v", first, l)
		}
	}
	if !slices.Equal(ops, append(below(5), do(api.Not), load(4))) || !slices.Equal(vs, []api.Value{number(4), number(9), text("x")}) {
		t.Errorf("there are %v and %v", ops, vs)
	}
	want := within(5, step("a", 1, 3, below(5)...), guarded(step("b", 1, 3, below(5)...), "c", below(5)...), step("c", 2, 2), once("d"))
	if got := within(5, steps...); !query.Same(got, want) {
		t.Errorf("there is %v", got)
	}
}
