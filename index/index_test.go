package index_test

import (
	"math"
	"math/rand"
	"slices"
	"strconv"
	"strings"
	"testing"

	"towncrier/api"
	"towncrier/expr"
	"towncrier/index"
)

func number(n int) api.Value  { return api.Value{Kind: api.Int, N: n} }
func truth(n int) api.Value   { return api.Value{Kind: api.Bool, N: n} }
func text(s string) api.Value { return api.Value{Kind: api.Bytes, S: s} }
func moment(n int) api.Value  { return api.Value{Kind: api.Time, N: n} }

func push(v api.Value) api.Op { return api.Op{Code: api.Push, V: v} }
func load(at int) api.Op      { return api.Op{Code: api.Load, Arg: at} }
func do(code int) api.Op      { return api.Op{Code: code} }

// parts is an expression of these parts.
func parts(l ...api.Op) []api.Op { return l }

// below asks whether the first value is less than a number.
func below(n int) []api.Op { return parts(load(0), push(number(n)), do(api.Less)) }

// asks is a pred of that name, of which these parts are so.
func asks(name string, ops ...api.Op) api.Pred { return api.Pred{Name: name, If: ops} }

// of is an event of these values.
func of(name string, l ...api.Value) api.Event { return api.Event{Name: name, At: 5, V: l} }

// step is a step of a name, taken once.
func step(name string, ops ...api.Op) api.Step {
	return api.Step{Name: name, If: ops, Min: 1, Max: 1}
}

// guarded is a step with a guard.
func guarded(s api.Step, name string, ops ...api.Op) api.Step {
	s.Guard, s.NotName, s.NotIf = true, name, ops
	return s
}

// looks is a query of these steps.
func looks(steps ...api.Step) api.Query { return api.Query{Steps: steps} }

// same tells whether two preds ask the same.
func same(a, b api.Pred) bool {
	if a.Name != b.Name || len(a.If) != len(b.If) {
		return false
	}
	for i := range a.If {
		if a.If[i] != b.If[i] {
			return false
		}
	}
	return true
}

// sameAll tells whether two lists ask the same, in order.
func sameAll(a, b []api.Pred) bool {
	return slices.EqualFunc(a, b, same)
}

// find is Find by the document's words.
func find(l []api.Pred, p api.Pred) int {
	at := -1
	for i := len(l) - 1; i >= 0; i-- {
		if same(l[i], p) {
			at = i
		}
	}
	return at
}

// everything is all that is asked by queries, as often as it is.
func everything(l []api.Query) []api.Pred {
	var out []api.Pred
	for i := range l {
		for j := range l[i].Steps {
			s := l[i].Steps[j]
			out = append(out, asks(s.Name, s.If...))
			if s.Guard {
				out = append(out, asks(s.NotName, s.NotIf...))
			}
		}
	}
	return out
}

// all is All by the document's words.
func all(l []api.Query) []api.Pred {
	var out []api.Pred
	for _, p := range everything(l) {
		if find(out, p) == -1 {
			out = append(out, p)
		}
	}
	return out
}

// holds is Holds by the document's words.
func holds(p api.Pred, e api.Event) bool {
	if p.Name != e.Name {
		return false
	}
	if len(p.If) == 0 {
		return true
	}
	v, why := expr.Eval(e, p.If)
	return why == api.OK && v.Kind == api.Bool && v.N == 1
}

// told is Told by the document's words.
func told(l []api.Pred, e api.Event) []bool {
	out := make([]bool, len(l))
	for i := range l {
		out[i] = holds(l[i], e)
	}
	return out
}

// ifs are expressions: so, not so, of an error, no Bool, and such as may not be.
func ifs() [][]api.Op {
	return [][]api.Op{
		nil,
		parts(push(truth(1))),
		parts(push(truth(0))),
		below(5),
		below(6),
		parts(push(number(5)), load(0), do(api.Less)),
		append(below(5), do(api.Not)),
		parts(load(0)),
		parts(load(1)),
		parts(load(5)),
		parts(load(1), push(text("x")), do(api.Same)),
		parts(load(1), push(text("y")), do(api.Same)),
		parts(load(2), push(moment(7)), do(api.Less)),
		parts(load(0), push(number(1)), do(api.Plus), push(number(5)), do(api.Less)),
		parts(push(number(1))),
		parts(push(text("a"))),
		parts(push(moment(1))),
		parts(do(api.Not)),
		parts(push(truth(1)), push(truth(1))),
		parts(push(truth(2))),
		parts(do(10)),
		parts(do(-1)),
		parts(load(6)),
		slices.Repeat(parts(push(truth(1))), 13),
		append(slices.Repeat(parts(push(truth(0)), do(api.Not)), 6), do(api.Not)),
	}
}

// names are names, some of which a part is another one of them, and texts that are no names.
func names() []string {
	return []string{"a", "b", "aa", "ab", "a0", "abcdefghijkl", "", "A", "a ", "a\x00", "\xff", "ä"}
}

// preds are what may be asked, each once.
func preds() []api.Pred {
	var l []api.Pred
	for _, name := range names() {
		for _, ops := range ifs() {
			l = append(l, asks(name, ops...))
		}
	}
	return l
}

// events are events, some of which may not be.
func events() []api.Event {
	var l []api.Event
	for _, name := range names() {
		l = append(l,
			of(name),
			of(name, number(4)),
			of(name, number(5), text("x"), moment(6)),
			of(name, number(math.MaxInt), text("y"), moment(7)),
			of(name, number(math.MinInt)),
			of(name, truth(1), truth(1), truth(1), truth(1), truth(1), truth(1)),
			of(name, truth(0), text("y")),
			of(name, truth(2)),
			of(name, make([]api.Value, 7)...),
			api.Event{Name: name, At: -1, V: []api.Value{number(4)}},
			api.Event{Name: name, At: api.MaxTime + 1, V: []api.Value{number(4)}},
		)
	}
	return l
}

// someStep is a step of few names and expressions, so that often two ask the same.
func someStep(r *rand.Rand) api.Step {
	l, n := ifs(), names()
	some := func() []api.Op { return l[r.Intn(len(l))>>r.Intn(4)] }
	s := api.Step{Name: n[r.Intn(len(n))>>r.Intn(4)], If: some(), Min: r.Intn(6), Max: r.Intn(6), Guard: r.Intn(2) == 0}
	if s.Guard || r.Intn(3) == 0 { // what stands there without a guard is not asked
		s.NotName, s.NotIf = n[r.Intn(len(n))>>r.Intn(4)], some()
	}
	return s
}

// someQueries are up to six queries, well made or not.
func someQueries(r *rand.Rand) []api.Query {
	l := make([]api.Query, r.Intn(7))
	for i := range l {
		l[i] = api.Query{Within: r.Intn(9) - 1, Agg: r.Intn(6) - 1, AggStep: r.Intn(3), AggF: r.Intn(3)}
		for range r.Intn(7) {
			l[i].Steps = append(l[i].Steps, someStep(r))
		}
	}
	return l
}

// clonePreds is a list that shares nothing with the one it is like.
func clonePreds(l []api.Pred) []api.Pred {
	l = slices.Clone(l)
	for i := range l {
		l[i].If = slices.Clone(l[i].If)
	}
	return l
}

func checkAll(t *testing.T, l []api.Query) []api.Pred {
	t.Helper()
	got, want := index.All(l), all(l)
	if !sameAll(got, want) {
		t.Fatalf("All(%v) = %v, want %v", l, got, want)
	}
	return got
}

func checkTold(t *testing.T, l []api.Pred, e api.Event) {
	t.Helper()
	if got, want := index.Told(l, e), told(l, e); !slices.Equal(got, want) {
		t.Fatalf("Told(%v, %v) = %v, want %v", l, e, got, want)
	}
}

// P10.1: Holds, written out.
func TestHoldsExamples(t *testing.T) {
	four, five := of("a", number(4)), of("a", number(5))
	so, not := push(truth(1)), push(truth(0))
	for i, x := range []struct {
		p    api.Pred
		e    api.Event
		want bool
	}{
		{asks("a"), four, true}, // an empty one holds of all of the name
		{api.Pred{Name: "a", If: []api.Op{}}, four, true},
		{asks("a"), of("a"), true},
		{asks("a", so), of("a"), true},
		{asks("a", not), of("a"), false},
		{asks("a", not, do(api.Not)), of("a"), true},
		{asks("a", below(5)...), four, true},
		{asks("a", below(5)...), five, false},
		{asks("a", load(0)), of("a", truth(1)), true},
		{asks("a", load(0)), of("a", truth(0)), false},
		{asks("a", load(5)), of("a", truth(0), truth(0), truth(0), truth(0), truth(0), truth(1)), true},

		{asks("b"), four, false}, // another name
		{asks("b", so), four, false},
		{asks("b", below(5)...), four, false},
		{asks("aa"), four, false},
		{asks(""), four, false},
		{asks("a"), of("aa"), false},
		{asks("a"), of(""), false},
		{asks("A"), four, false},
		{asks("a\x00"), four, false},
		{api.Pred{}, four, false},

		{asks("a", load(0)), of("a"), false}, // an error, or no Bool
		{asks("a", below(5)...), of("a"), false},
		{asks("a", below(5)...), of("a", text("x")), false},
		{asks("a", append(below(5), do(api.Not))...), of("a"), false},
		{asks("a", load(0)), of("a", number(1)), false},
		{asks("a", load(0)), of("a", moment(1)), false},
		{asks("a", push(number(1))), of("a"), false},
		{asks("a", do(api.Not)), of("a"), false},
		{asks("a", so, so), of("a"), false},
		{asks("a", load(0), load(0), do(api.Plus), push(number(0)), do(api.Less)), of("a", number(math.MaxInt)), false},

		{asks("a", push(truth(2))), of("a"), false}, // what may not be
		{asks("a", do(10)), of("a"), false},
		{asks("a", slices.Repeat(parts(so), 13)...), of("a"), false},
		{asks("a", so), api.Event{Name: "a", At: -1}, false},
		{asks("a", so), of("a", truth(2)), false},
		{asks("A", so), of("A"), false},
		{asks("A"), of("A"), true},
		{api.Pred{}, api.Event{}, true},
		{asks("a"), api.Event{Name: "a", At: -1}, true},
	} {
		if got := index.Holds(x.p, x.e); got != x.want {
			t.Errorf("%d: Holds(%v, %v) = %v", i, x.p, x.e, got)
		}
	}
}

// P10.1: Holds is what the document's words say, of each pred and each event.
func TestHolds(t *testing.T) {
	var so, not int
	for _, p := range preds() {
		for _, e := range events() {
			got := index.Holds(p, e)
			if want := holds(p, e); got != want {
				t.Fatalf("Holds(%v, %v) = %v, want %v", p, e, got, want)
			}
			if p.Name == e.Name && got {
				so++
			} else if p.Name == e.Name {
				not++
			}
		}
	}
	if so < 200 || not < 200 {
		t.Errorf("%d hold, and %d do not", so, not)
	}
}

// P10.1: Find, written out.
func TestFindExamples(t *testing.T) {
	l := []api.Pred{asks("a"), asks("b"), asks("a", below(5)...), asks("a"), asks("b", below(5)...), asks("a", below(5)...), asks("", load(0)), asks("A", do(99))}
	for i, x := range []struct {
		p    api.Pred
		want int
	}{
		{asks("a"), 0}, // the first one, not the other one
		{api.Pred{Name: "a", If: []api.Op{}}, 0},
		{asks("b"), 1},
		{asks("a", below(5)...), 2},
		{asks("b", below(5)...), 4},
		{asks("", load(0)), 6},
		{asks("A", do(99)), 7},

		{asks("c"), -1},
		{asks("aa"), -1},
		{asks(""), -1},
		{api.Pred{}, -1},
		{asks("c", below(5)...), -1},
		{asks("a", below(6)...), -1},
		{asks("a", below(5)[:2]...), -1}, // a beginning is another one
		{asks("a", append(below(5), do(api.Not))...), -1},
		{asks("a", load(0), do(api.Less), push(number(5))), -1},
		{asks("A", do(98)), -1},
		{asks("A"), -1},
	} {
		if got := index.Find(l, x.p); got != x.want {
			t.Errorf("%d: Find(%v) = %d, want %d", i, x.p, got, x.want)
		}
		if got := index.Find(nil, x.p); got != -1 {
			t.Errorf("%d: in no list it is at %d", i, got)
		}
		if got := index.Find([]api.Pred{}, x.p); got != -1 {
			t.Errorf("%d: in an empty list it is at %d", i, got)
		}
	}
	if got := index.Find([]api.Pred{{If: []api.Op{}}}, api.Pred{}); got != 0 {
		t.Errorf("a zero one is at %d", got)
	}
}

// P10.1: a part that differs in one place alone is another one.
func TestFindOneOff(t *testing.T) {
	p := asks("a", load(1), push(text("x")), do(api.Same))
	changes := []func(p *api.Pred){
		func(p *api.Pred) { p.Name = "b" },
		func(p *api.Pred) { p.Name = "" },
		func(p *api.Pred) { p.If[0].Code = api.Push },
		func(p *api.Pred) { p.If[0].Arg = 0 },
		func(p *api.Pred) { p.If[1].V.Kind = api.Time },
		func(p *api.Pred) { p.If[1].V.N = 1 },
		func(p *api.Pred) { p.If[1].V.S = "y" },
		func(p *api.Pred) { p.If[1].V.S = "x\x00" },
		func(p *api.Pred) { p.If[2].Code = api.Less },
		func(p *api.Pred) { p.If[2].Arg = 1 },
		func(p *api.Pred) { p.If[2].V.Kind = api.Bool },
		func(p *api.Pred) { p.If = p.If[:2] },
		func(p *api.Pred) { p.If = nil },
		func(p *api.Pred) { p.If[0], p.If[1] = p.If[1], p.If[0] },
	}
	var l []api.Pred
	for _, change := range changes {
		other := clonePreds([]api.Pred{p})[0]
		change(&other)
		l = append(l, other)
	}
	if got := index.Find(l, p); got != -1 {
		t.Errorf("it is found at %d: %v", got, l[got])
	}
	if got := index.Find(append(l, p, p), p); got != len(l) {
		t.Errorf("it is found at %d, want %d", got, len(l))
	}
	for i := range l {
		if got := index.Find(append([]api.Pred{p}, l...), l[i]); got != i+1 {
			t.Errorf("%v is found at %d, want %d", l[i], got, i+1)
		}
	}
}

// P10.1: Find is what the document's words say, of lists with each pred at several places, or at none.
func TestFind(t *testing.T) {
	r := rand.New(rand.NewSource(101))
	from := preds()
	var there int
	for range 20000 {
		l := make([]api.Pred, r.Intn(12))
		for i := range l {
			l[i] = from[r.Intn(len(from))>>r.Intn(7)]
		}
		p := from[r.Intn(len(from))>>r.Intn(7)]
		got := index.Find(l, clonePreds([]api.Pred{p})[0])
		if want := find(l, p); got != want {
			t.Fatalf("Find(%v, %v) = %d, want %d", l, p, got, want)
		}
		if got >= 0 {
			there++
		}
	}
	if there < 1000 || there > 19000 {
		t.Errorf("%d of them were there", there)
	}
	for i, p := range from {
		if got := index.Find(from, p); got != i {
			t.Errorf("%v is found at %d, want %d", p, got, i)
		}
	}
}

// P10.2: All, written out.
func TestAllExamples(t *testing.T) {
	a, b := step("a"), step("b")
	five, six := below(5), below(6)
	without := step("a") // it has no guard: what stands there is not asked
	without.NotName, without.NotIf = "c", five
	empty := api.Step{Name: "a", If: []api.Op{}}
	for i, x := range []struct {
		l    []api.Query
		want []api.Pred
	}{
		{nil, nil},
		{[]api.Query{}, nil},
		{[]api.Query{{}}, nil},
		{[]api.Query{looks(a)}, []api.Pred{asks("a")}},
		{[]api.Query{looks(a), looks(a)}, []api.Pred{asks("a")}}, // the document's
		{[]api.Query{looks(a, a)}, []api.Pred{asks("a")}},
		{[]api.Query{looks(a), looks(empty)}, []api.Pred{asks("a")}},
		{[]api.Query{looks(empty), looks(a)}, []api.Pred{asks("a")}},
		{[]api.Query{looks(b, a)}, []api.Pred{asks("b"), asks("a")}}, // by who asks first, not by name
		{[]api.Query{looks(b), looks(a), looks(b)}, []api.Pred{asks("b"), asks("a")}},
		{[]api.Query{looks(b, a), {}, looks(a, b, step("c"))}, []api.Pred{asks("b"), asks("a"), asks("c")}},
		{[]api.Query{looks(step("a", five...), a)}, []api.Pred{asks("a", five...), asks("a")}},
		{[]api.Query{looks(step("a", five...), step("b", five...), step("a", six...), step("a", below(5)...))}, []api.Pred{asks("a", five...), asks("b", five...), asks("a", six...)}},
		{[]api.Query{looks(without)}, []api.Pred{asks("a")}},
		{[]api.Query{looks(without, guarded(a, "c", five...))}, []api.Pred{asks("a"), asks("c", five...)}},
		{[]api.Query{looks(a, guarded(b, "c"))}, []api.Pred{asks("a"), asks("b"), asks("c")}}, // the step's own ahead of its guard's
		{[]api.Query{looks(a, guarded(b, "c"), step("d"))}, []api.Pred{asks("a"), asks("b"), asks("c"), asks("d")}},
		{[]api.Query{looks(a, guarded(b, "a"))}, []api.Pred{asks("a"), asks("b")}},
		{[]api.Query{looks(a, guarded(b, "b"))}, []api.Pred{asks("a"), asks("b")}},
		{[]api.Query{looks(a, guarded(b, "b", five...))}, []api.Pred{asks("a"), asks("b"), asks("b", five...)}},
		{[]api.Query{looks(a, guarded(b, "c", five...), guarded(b, "c", six...)), looks(step("c", six...))}, []api.Pred{asks("a"), asks("b"), asks("c", five...), asks("c", six...)}},
		{[]api.Query{looks(guarded(a, "b")), looks(b)}, []api.Pred{asks("a"), asks("b")}}, // also of a first one, and of what is not well made
		{[]api.Query{looks(guarded(api.Step{}, ""))}, []api.Pred{{}}},
		{[]api.Query{looks(guarded(api.Step{}, "", load(9)), step("A", do(99)))}, []api.Pred{{}, asks("", load(9)), asks("A", do(99))}},
		{[]api.Query{looks(a, a, a, a, a, b)}, []api.Pred{asks("a"), asks("b")}},
	} {
		if got := index.All(x.l); !sameAll(got, x.want) {
			t.Errorf("%d: All(%v) = %v, want %v", i, x.l, got, x.want)
		}
	}
}

// P10.2: how often a step is taken, within which time, and what is told, is not asked.
func TestAllOfNothingElse(t *testing.T) {
	often := step("a", below(5)...)
	often.Min, often.Max = 2, 4
	one := api.Query{Steps: []api.Step{often, step("b")}, Within: 7, Agg: api.Sum, AggStep: 1, AggF: 3}
	two := looks(step("a", below(5)...), step("b"))
	want := []api.Pred{asks("a", below(5)...), asks("b")}
	for _, l := range [][]api.Query{{one}, {two}, {one, two}, {two, one}} {
		if got := index.All(l); !sameAll(got, want) {
			t.Errorf("All(%v) = %v, want %v", l, got, want)
		}
	}
}

// P10.2: All is what the document's words say, of many queries.
func TestAll(t *testing.T) {
	r := rand.New(rand.NewSource(102))
	var fewer int
	for range 20000 {
		l := someQueries(r)
		if got := checkAll(t, l); len(got) < len(everything(l)) {
			fewer++
		}
	}
	if fewer < 1000 {
		t.Errorf("just %d of them asked something twice", fewer)
	}
}

// P10.2: Told, written out.
func TestToldExamples(t *testing.T) {
	l := []api.Pred{asks("a"), asks("b"), asks("a", below(5)...), asks("a", below(6)...), asks("a"), asks("a", load(1)), asks("a", do(99)), asks("b", push(truth(1)))}
	for i, x := range []struct {
		e    api.Event
		want []bool
	}{
		{of("a", number(4)), []bool{true, false, true, true, true, false, false, false}},
		{of("a", number(5)), []bool{true, false, false, true, true, false, false, false}},
		{of("a", number(6), truth(1)), []bool{true, false, false, false, true, true, false, false}},
		{of("a"), []bool{true, false, false, false, true, false, false, false}},
		{of("b"), []bool{false, true, false, false, false, false, false, true}},
		{of("c", number(4)), make([]bool, 8)},
		{api.Event{}, make([]bool, 8)},
		{api.Event{Name: "b", At: -1}, []bool{false, true, false, false, false, false, false, false}},
	} {
		if got := index.Told(l, x.e); !slices.Equal(got, x.want) {
			t.Errorf("%d: Told(%v) = %v, want %v", i, x.e, got, x.want)
		}
		if got := index.Told(nil, x.e); len(got) != 0 {
			t.Errorf("%d: of none it is told %v", i, got)
		}
	}
}

// P10.2: Told is what the document's words say, of many lists, some with one pred twice.
func TestTold(t *testing.T) {
	r := rand.New(rand.NewSource(103))
	from := preds()
	for _, e := range events() {
		checkTold(t, from, e)
		for range 50 {
			l := make([]api.Pred, r.Intn(12))
			for i := range l {
				l[i] = from[r.Intn(len(from))>>r.Intn(7)]
			}
			checkTold(t, l, e)
		}
	}
}

// P10.3: what each step, and each guard, asks is there once, and told where it is found.
func TestToldWhereFound(t *testing.T) {
	r := rand.New(rand.NewSource(104))
	es := events()
	var so int
	for range 3000 {
		l := someQueries(r)
		asked := index.All(l)
		e := es[r.Intn(len(es))>>r.Intn(5)]
		truths := index.Told(asked, e)
		if len(truths) != len(asked) {
			t.Fatalf("of %d preds %d are told", len(asked), len(truths))
		}
		for _, p := range everything(l) {
			at := index.Find(asked, p)
			if at < 0 {
				t.Fatalf("%v is asked, but not in %v", p, asked)
			}
			if truths[at] != index.Holds(p, e) || truths[at] != holds(p, e) {
				t.Fatalf("%v is told %v of %v", p, truths[at], e)
			}
			if truths[at] {
				so++
			}
		}
		for i, p := range asked {
			if index.Find(asked, p) != i || find(everything(l), p) < 0 {
				t.Fatalf("%v is twice in %v, or not asked", p, asked)
			}
		}
	}
	if so < 500 {
		t.Errorf("just %d hold", so)
	}
}

// P10.3: more queries change nothing of the places that there are.
func TestPlacesStay(t *testing.T) {
	r := rand.New(rand.NewSource(105))
	for range 2000 {
		l := someQueries(r)
		before := index.All(l)
		after := index.All(append(l, someQueries(r)...))
		if len(after) < len(before) || !sameAll(after[:len(before)], before) {
			t.Fatalf("%v became %v", before, after)
		}
	}
}

// R3: what is handed in stays as it was, also what stands behind it.
func TestArgumentsStayAsTheyWere(t *testing.T) {
	ops := append(below(5), do(api.Not), load(4))
	steps := []api.Step{step("a", ops[:3]...), guarded(step("b"), "a", ops[:3]...), step("a"), step("c")}
	l := []api.Query{looks(steps[:2]...), looks(steps[:3]...), looks(step("d"))}
	ps := []api.Pred{asks("a", ops[:3]...), asks("b"), asks("c", ops[:4]...)}
	vs := []api.Value{number(4), truth(1), text("x")}
	e := of("a", vs[:1]...)
	for range 2 {
		index.All(l[:2])
		index.Find(ps[:2], ps[2])
		index.Find(ps[:2], ps[1])
		index.Told(ps[:2], e)
		index.Holds(ps[0], e)
	}
	if !slices.Equal(ops, append(below(5), do(api.Not), load(4))) || !slices.Equal(vs, []api.Value{number(4), truth(1), text("x")}) {
		t.Errorf("there are %v and %v", ops, vs)
	}
	want := []api.Pred{asks("a", below(5)...), asks("b"), asks("c", append(below(5), do(api.Not))...)}
	if !sameAll(ps, want) {
		t.Errorf("there are %v", ps)
	}
	asked := []api.Pred{want[0], want[1], want[0], want[0], want[1], want[0], asks("a"), asks("d")}
	if !sameAll(everything(l), asked) || !sameAll(everything([]api.Query{looks(steps...)}), append(asked[:3:3], asks("a"), asks("c"))) {
		t.Errorf("there are %v and %v", l, steps)
	}
}

// R3: what is answered is the caller's own, and does not hang on what was handed in.
func TestAnswersAreOwn(t *testing.T) {
	l := []api.Query{looks(step("a", below(5)...), guarded(step("b", below(5)...), "a", below(6)...)), looks(step("a", below(5)...), step("c"))}
	got, other := index.All(l), index.All(l)
	want := clonePreds(got)
	for _, p := range other {
		clear(p.If[:cap(p.If)])
	}
	clear(other[:cap(other)])
	if !sameAll(got, want) || !sameAll(index.All(l), want) {
		t.Errorf("when another answer was changed it is %v, and then %v", got, index.All(l))
	}
	for i := range l {
		for j := range l[i].Steps {
			clear(l[i].Steps[j].If)
			clear(l[i].Steps[j].NotIf)
		}
		clear(l[i].Steps)
	}
	if !sameAll(got, want) {
		t.Errorf("when the queries were changed it is %v", got)
	}
	e := of("a", number(4))
	truths := index.Told(want, e)
	again := index.Told(want, e)
	clear(truths[:cap(truths)])
	if !slices.Equal(again, []bool{true, false, true, false}) {
		t.Errorf("when another answer was changed it is %v", again)
	}
}

// R3: no two lists of one answer share any, and none reaches into another one.
func TestAnswersShareNothing(t *testing.T) {
	ops := append(below(5), do(api.Not))
	got := index.All([]api.Query{looks(step("a", ops[:3]...), guarded(step("b", ops[:3]...), "c", ops...), step("d", ops[:3]...))})
	want := clonePreds(got)
	for i := range got {
		room := got[i].If[:cap(got[i].If)]
		for k := range room {
			room[k] = load(5)
		}
		for j := i + 1; j < len(got); j++ {
			if !same(got[j], want[j]) {
				t.Errorf("%d became %v with %d", j, got[j], i)
			}
		}
	}
}

// R5: what was asked before, and how a map is gone through, changes nothing.
func TestNothingKept(t *testing.T) {
	var l []api.Query
	for i := range 40 {
		name := string(rune('a' + i*7%26))
		l = append(l, looks(step(name, below(i%5)...), guarded(step("z", below(i)...), name)))
	}
	want := all(l)
	for i := range 50 {
		if got := index.All(l); !sameAll(got, want) {
			t.Fatalf("All(%v) = %v, want %v", l, got, want)
		}
		checkAll(t, l[i%40:])
		for j, p := range want {
			if got := index.Find(want, p); got != j {
				t.Fatalf("%v is found at %d, want %d", p, got, j)
			}
		}
		checkTold(t, want, of(string(rune('a'+i%26)), number(i%7)))
	}
}

// R1: long names, long expressions, many steps and many preds.
func TestLongArguments(t *testing.T) {
	long := asks(strings.Repeat("a", 1<<20), slices.Repeat(parts(push(truth(1))), 1<<16)...)
	twice := looks(step(long.Name, long.If...), step(long.Name, slices.Clone(long.If)...))
	if got := index.All([]api.Query{twice}); len(got) != 1 || !same(got[0], long) || index.Find(got, long) != 0 {
		t.Error("a long one is not there once")
	}
	if index.Holds(long, of(long.Name)) || !index.Holds(asks(long.Name), of(long.Name)) {
		t.Error("a long one is told wrongly")
	}
	many := looks(slices.Repeat([]api.Step{guarded(step("a", below(5)...), "b")}, 1<<17)...)
	if got := index.All(slices.Repeat([]api.Query{many}, 4)); !sameAll(got, []api.Pred{asks("a", below(5)...), asks("b")}) {
		t.Errorf("of many steps there are %d preds", len(got))
	}
	var each api.Query
	for i := range 1 << 16 {
		each.Steps = append(each.Steps, step("a"+strconv.Itoa(i)))
	}
	got := index.All([]api.Query{each, each})
	if len(got) != 1<<16 || got[1<<16-1].Name != "a65535" || index.Find(got, asks("a65535")) != 1<<16-1 || index.Find(got, asks("a65536")) != -1 {
		t.Errorf("of many names there are %d preds", len(got))
	}
	if truths := index.Told(got, of("a65535")); len(truths) != 1<<16 || !truths[1<<16-1] || slices.Contains(truths[:1<<16-1], true) {
		t.Error("many are told wrongly")
	}
}
