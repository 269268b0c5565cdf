package query_test

import (
	"bytes"
	"encoding/binary"
	"math"
	"math/rand"
	"slices"
	"strings"
	"testing"

	"towncrier/api"
	"towncrier/expr"
	"towncrier/query"
	"towncrier/registry"
	"towncrier/schema"
)

func number(n int) api.Value  { return api.Value{Kind: api.Int, N: n} }
func truth(n int) api.Value   { return api.Value{Kind: api.Bool, N: n} }
func text(s string) api.Value { return api.Value{Kind: api.Bytes, S: s} }

func push(v api.Value) api.Op { return api.Op{Code: api.Push, V: v} }
func load(at int) api.Op      { return api.Op{Code: api.Load, Arg: at} }
func do(code int) api.Op      { return api.Op{Code: code} }

// parts is an expression of these parts.
func parts(l ...api.Op) []api.Op { return l }

// so is an expression that comes to a Bool, of any event.
func so() []api.Op { return parts(push(truth(1))) }

// most is an expression of twelve parts, whose bytes are as many as there may be.
func most() []api.Op {
	return slices.Repeat(parts(push(text(strings.Repeat("z", 40)))), 12)
}

// step is a step of a name, taken so often.
func step(name string, least, most int, ops ...api.Op) api.Step {
	return api.Step{Name: name, If: ops, Min: least, Max: most}
}

// once is a step of a name, taken once.
func once(name string, ops ...api.Op) api.Step { return step(name, 1, 1, ops...) }

// guarded is a step with a guard.
func guarded(s api.Step, name string, ops ...api.Op) api.Step {
	s.Guard, s.NotName, s.NotIf = true, name, ops
	return s
}

// of is a query of these steps, within 0, counted.
func of(steps ...api.Step) api.Query { return api.Query{Steps: steps} }

// telling is the same query, of which that is told.
func telling(q api.Query, agg, at, field int) api.Query {
	q.Agg, q.AggStep, q.AggF = agg, at, field
	return q
}

// within is the same query, within that time.
func within(q api.Query, time int) api.Query {
	q.Within = time
	return q
}

// clone is a query that shares nothing with the one it is like.
func clone(q api.Query) api.Query {
	q.Steps = slices.Clone(q.Steps)
	for i := range q.Steps {
		q.Steps[i].If, q.Steps[i].NotIf = slices.Clone(q.Steps[i].If), slices.Clone(q.Steps[i].NotIf)
	}
	return q
}

// with is a query with something changed.
func with(q api.Query, change func(q *api.Query)) api.Query {
	q = clone(q)
	change(&q)
	return q
}

// schemas are a list that may be: an Int first, no field, one of each kind, an Int last.
func schemas() []api.Schema {
	return []api.Schema{
		{Name: "a", Ver: 1, F: []api.Field{{Name: "n"}}},
		{Name: "b", Ver: 1},
		{Name: "c", Ver: 7, F: []api.Field{{Name: "w", Kind: api.Bool}, {Name: "x", Kind: api.Bytes}, {Name: "y", Kind: api.Time}, {Name: "z", Kind: api.Int}}},
		{Name: "d_0", Ver: 1000, F: []api.Field{{Name: "f0", Kind: api.Time}, {Name: "f1", Kind: api.Time}, {Name: "f2", Kind: api.Time}, {Name: "f3", Kind: api.Time}, {Name: "f4", Kind: api.Time}, {Name: "f5"}}},
	}
}

// has tells whether bytes are put of an expression.
func has(l []api.Op) bool {
	_, is := expr.Put(l)
	return is
}

// wellMade is which query is well made, by the document's words.
func wellMade(q api.Query) bool {
	wrong := 0
	no := func(is bool) {
		if is {
			wrong++
		}
	}
	n := len(q.Steps)
	no(n < 1 || n > 4)
	for i, s := range q.Steps {
		no(!schema.Name(s.Name))
		no(!has(s.If))
		no(1 > s.Min || s.Min > s.Max || s.Max > 4)
		no(i == n-1 && s.Min != s.Max)
		no(i == 0 && s.Guard)
		no(s.Guard && !schema.Name(s.NotName))
		no(s.Guard && !has(s.NotIf))
		no(!s.Guard && s.NotName != "")
		no(!s.Guard && len(s.NotIf) > 0)
	}
	no(q.Within < 0 || q.Within > 1<<50)
	no(q.Agg < 0 || q.Agg > 3)
	no(q.AggStep < 0 || q.AggStep >= n)
	no(q.AggF < 0 || q.AggF > 5)
	no(q.Agg == 0 && q.AggF != 0)
	return wrong == 0
}

// check is Check by the document's words.
func check(l []api.Schema, q api.Query) api.Errno {
	if !registry.May(l) || !wellMade(q) {
		return 1
	}
	for _, s := range q.Steps {
		asked := []api.Pred{{Name: s.Name, If: s.If}}
		if s.Guard {
			asked = append(asked, api.Pred{Name: s.NotName, If: s.NotIf})
		}
		for _, p := range asked {
			by, is := registry.Find(l, p.Name)
			if !is {
				return 3
			}
			kind, why := expr.Kind(by, p.If)
			if len(p.If) > 0 && why != 0 {
				return why
			}
			if len(p.If) > 0 && kind != 1 {
				return 5
			}
		}
	}
	by, _ := registry.Find(l, q.Steps[q.AggStep].Name)
	if q.Agg > 0 && (len(by.F) <= q.AggF || by.F[q.AggF].Kind != 0) {
		return 5
	}
	return 0
}

// putAsked is a name and an expression, by the document's words.
func putAsked(b []byte, name string, l []api.Op) []byte {
	ops, _ := expr.Put(l)
	return slices.Concat(binary.AppendUvarint(b, uint64(len(name))), []byte(name), ops)
}

// put is Put by the document's words.
func put(q api.Query) ([]byte, bool) {
	if !wellMade(q) {
		return nil, false
	}
	b := []byte{byte(len(q.Steps))}
	for _, s := range q.Steps {
		b = putAsked(b, s.Name, s.If)
		b = append(b, byte(s.Min), byte(s.Max))
		if s.Guard {
			b = putAsked(append(b, 1), s.NotName, s.NotIf)
		} else {
			b = append(b, 0)
		}
	}
	b = binary.AppendUvarint(b, uint64(q.Within))
	return append(b, byte(q.Agg), byte(q.AggStep), byte(q.AggF)), true
}

// get is Get by the document's words: what bytes might tell, if they begin by what is put of that.
func get(b []byte) (api.Query, int, bool) {
	q := guess(b)
	if p, is := put(q); is && bytes.HasPrefix(b, p) {
		return q, len(p), true
	}
	return api.Query{}, 0, false
}

// guess is the one query that bytes might tell, if they tell one.
func guess(b []byte) api.Query {
	next := func() int {
		n, used := binary.Uvarint(b)
		b = b[max(used, 0):]
		return int(n)
	}
	asked := func() (string, []api.Op) {
		n := min(len(b), max(0, next()))
		n = min(n, len(b))
		name := string(b[:n])
		l, used, _ := expr.Get(b[n:])
		b = b[n+used:]
		return name, l
	}
	var q api.Query
	for range min(next(), 5) {
		var s api.Step
		s.Name, s.If = asked()
		s.Min, s.Max, s.Guard = next(), next(), next() == 1
		if s.Guard {
			s.NotName, s.NotIf = asked()
		}
		q.Steps = append(q.Steps, s)
	}
	q.Within, q.Agg, q.AggStep, q.AggF = next(), next(), next(), next()
	return q
}

func sameOps(a, b []api.Op) bool {
	if len(a) != len(b) {
		return false
	}
	for i := range a {
		if a[i] != b[i] {
			return false
		}
	}
	return true
}

// same is Same by the document's words.
func same(a, b api.Query) bool {
	if len(a.Steps) != len(b.Steps) {
		return false
	}
	for i, s := range a.Steps {
		t := b.Steps[i]
		if !sameOps(s.If, t.If) || !sameOps(s.NotIf, t.NotIf) {
			return false
		}
		if s.Name != t.Name || s.Min != t.Min || s.Max != t.Max || s.Guard != t.Guard || s.NotName != t.NotName {
			return false
		}
	}
	return a.Within == b.Within && a.Agg == b.Agg && a.AggStep == b.AggStep && a.AggF == b.AggF
}

// isNone tells whether nothing was got.
func isNone(q api.Query, n int, is bool) bool {
	return same(q, api.Query{}) && n == 0 && !is
}

// three is a query that is right by schemas, and has something of all.
func three() api.Query {
	less := parts(load(0), push(number(5)), do(api.Less))
	return api.Query{
		Steps: []api.Step{
			step("a", 2, 3, less...),
			guarded(step("b", 1, 4), "c", load(0)),
			guarded(step("c", 2, 2, load(0), do(api.Not)), "d_0", load(5), load(5), do(api.Same)),
		},
		Within: 300, Agg: api.Sum, AggStep: 2, AggF: 3,
	}
}

// good are queries that are well made, right by schemas or not, the edges among them.
func good() []api.Query {
	a := once("a")
	l := []api.Query{
		of(a),
		{Steps: []api.Step{{Name: "a", If: []api.Op{}, Min: 1, Max: 1, NotIf: []api.Op{}}}},
		three(),
		of(a, a), of(a, a, a), of(a, a, a, a),
		of(step("a", 4, 4)),
		of(step("a", 1, 4), step("b", 3, 4), step("c", 4, 4)),
		of(a, guarded(a, "a"), guarded(a, "b"), guarded(a, "c")),
		of(a, a, a, guarded(step("a", 2, 2, so()...), "a", so()...)),
		of(a, guarded(step("a", 1, 2), "b", load(0)), a),
		of(once("abcdefghijkl"), guarded(once("a0_"), "z_9")),
		of(once("nobody"), guarded(a, "none", load(5))),
		of(once("a", most()...), guarded(once("a", most()...), "abcdefghijkl", most()...)),
		of(once("a", do(api.And)), guarded(once("a", load(5)), "a", push(number(math.MinInt)))),
	}
	for _, time := range []int{1, 127, 128, 16383, 16384, 1<<50 - 1, 1 << 50} {
		l = append(l, within(of(a), time))
	}
	for at := range 4 {
		l = append(l, telling(of(a, a, a, a), api.Count, at, 0))
		for agg := api.Sum; agg < api.Aggs; agg++ {
			for field := range 6 {
				l = append(l, telling(of(a, once("c"), once("d_0"), once("b")), agg, at, field))
			}
		}
	}
	return l
}

// badParts are expressions of which there are no bytes.
func badParts() [][]api.Op {
	return [][]api.Op{
		slices.Repeat(so(), 13), parts(do(10)), parts(do(-1)), parts(load(6)), parts(load(-1)),
		parts(push(truth(2))), append(so(), do(256)), parts(api.Op{Code: api.Not, Arg: 1}), parts(push(text(strings.Repeat("x", 41)))),
	}
}

// notNames are texts that are no names.
func notNames() []string {
	return []string{"", "A", "_a", "0a", "a b", "abcdefghijklm", "a\x00", "ä", "a\xff", strings.Repeat("a", 300)}
}

// badSteps are what makes a step one that may not be, where it has a guard and where it has none.
func badSteps() []func(s *api.Step) {
	l := []func(s *api.Step){
		func(s *api.Step) { s.Min = 0 },
		func(s *api.Step) { s.Min = -1 },
		func(s *api.Step) { s.Min, s.Max = 0, 0 },
		func(s *api.Step) { s.Min, s.Max = 5, 5 },
		func(s *api.Step) { s.Max = 5 },
		func(s *api.Step) { s.Max = 256 },
		func(s *api.Step) { s.Min, s.Max = 3, 2 },
		func(s *api.Step) { s.Min, s.Max = 2, 1 },
		func(s *api.Step) { s.Min, s.Max = math.MinInt, math.MaxInt },
		func(s *api.Step) { s.Min, s.Max = math.MinInt, math.MinInt },
		func(s *api.Step) { s.Guard, s.NotName, s.NotIf = false, "a", nil },
		func(s *api.Step) { s.Guard, s.NotName, s.NotIf = false, "A", nil },
		func(s *api.Step) { s.Guard, s.NotName, s.NotIf = false, "", so() },
		func(s *api.Step) { s.Guard, s.NotName, s.NotIf = false, "a", so() },
	}
	for _, name := range notNames() {
		l = append(l, func(s *api.Step) { s.Name = name }, func(s *api.Step) { s.Guard, s.NotName = true, name })
	}
	for _, ops := range badParts() {
		l = append(l, func(s *api.Step) { s.If = ops }, func(s *api.Step) { s.Guard, s.NotName, s.NotIf = true, "a", ops })
	}
	return l
}

// badTelling are what makes a query of at most four steps one that is not well made, whatever its steps are.
func badTelling() []func(q *api.Query) {
	return []func(q *api.Query){
		func(q *api.Query) { q.Within = -1 },
		func(q *api.Query) { q.Within = 1<<50 + 1 },
		func(q *api.Query) { q.Within = math.MaxInt },
		func(q *api.Query) { q.Within = math.MinInt },
		func(q *api.Query) { q.Agg = -1 },
		func(q *api.Query) { q.Agg, q.AggF = -1, 0 },
		func(q *api.Query) { q.Agg = 4 },
		func(q *api.Query) { q.Agg, q.AggF = 256, 0 },
		func(q *api.Query) { q.AggStep = -1 },
		func(q *api.Query) { q.AggStep = len(q.Steps) },
		func(q *api.Query) { q.AggStep = math.MaxInt },
		func(q *api.Query) { q.AggStep = math.MinInt },
		func(q *api.Query) { q.Agg, q.AggF = 1, -1 },
		func(q *api.Query) { q.Agg, q.AggF = 2, 6 },
		func(q *api.Query) { q.Agg, q.AggF = 3, 256 },
		func(q *api.Query) { q.Agg, q.AggF = 0, 1 },
		func(q *api.Query) { q.Agg, q.AggF = 0, -1 },
		func(q *api.Query) { q.Agg, q.AggF = 0, 5 },
	}
}

// bad are queries that are not well made: a step that may not be at each place, too few and too many, and what is told wrongly.
func bad() []api.Query {
	a := once("a")
	l := []api.Query{
		{},
		{Steps: []api.Step{}},
		{Within: 5, Agg: api.Sum},
		of(a, a, a, a, a),
		of(slices.Repeat([]api.Step{a}, 256)...),
		of(slices.Repeat([]api.Step{a}, 257)...),
		of(api.Step{}),
		of(a, api.Step{}),
		of(guarded(a, "a")),
		of(guarded(a, "a", so()...), a),
		of(guarded(a, "a"), guarded(a, "a")),
		of(step("a", 1, 2)), // Min is not Max of the last one
		of(a, step("a", 3, 4)),
		of(a, a, guarded(step("a", 1, 4), "b")),
		of(a, a, a, step("a", 1, 2)),
		of(step("a", 1, 2), step("b", 1, 2)),
	}
	full := of(a, guarded(a, "a"), a, guarded(a, "c", so()...))
	for _, q := range []api.Query{of(a), of(a, a), three(), full} {
		for _, change := range badTelling() {
			l = append(l, with(q, change))
		}
		for i := range q.Steps {
			for _, change := range badSteps() {
				l = append(l, with(q, func(q *api.Query) { change(&q.Steps[i]) }))
			}
		}
	}
	return l
}

func all() []api.Query {
	return append(good(), bad()...)
}

// badLists are schemas of which a list may not be.
func badLists() [][]api.Schema {
	nine := schemas()
	for i := range 5 {
		nine = append(nine, api.Schema{Name: "n" + string(rune('0'+i)), Ver: 1})
	}
	return [][]api.Schema{
		{{}},
		{{Name: "a"}},
		{{Name: "A", Ver: 1}},
		append(schemas(), api.Schema{Name: "x", Ver: 1001}),
		append(schemas(), api.Schema{Name: "a", Ver: 2, F: []api.Field{{Name: "n"}}}),
		append(schemas(), schemas()[1]),
		append(schemas(), api.Schema{Name: "x", Ver: 1, F: []api.Field{{Name: "n", Kind: 4}}}),
		nine,
	}
}

func checkCheck(t *testing.T, l []api.Schema, q api.Query) api.Errno {
	t.Helper()
	got, want := query.Check(l, q), check(l, q)
	if got != want {
		t.Fatalf("Check(%v, %v) = %v, want %v", l, q, got, want)
	}
	return got
}

func checkPut(t *testing.T, q api.Query) {
	t.Helper()
	got, is := query.Put(q)
	want, may := put(q)
	if is != may || !bytes.Equal(got, want) {
		t.Fatalf("Put(%v) = %v, %v, want %v, %v", q, got, is, want, may)
	}
}

// checkGet holds Get against the document's words: what is got is put as just these bytes, and what is not got is put as no beginning.
func checkGet(t *testing.T, b []byte) bool {
	t.Helper()
	before := bytes.Clone(b)
	q, n, is := query.Get(b)
	want, m, there := get(before)
	if !same(q, want) || n != m || is != there {
		t.Fatalf("Get(%v) = %v, %d, %v, want %v, %d, %v", before, q, n, is, want, m, there)
	}
	if !bytes.Equal(b, before) {
		t.Fatalf("Get(%v) changed them to %v", before, b)
	}
	return is
}

// someOps is an expression that is mostly right by the schema of a name.
func someOps(r *rand.Rand, name string) []api.Op {
	right := map[string][][]api.Op{
		"a":   {parts(load(0), push(number(5)), do(api.Less)), parts(load(0), load(0), do(api.Same), do(api.Not))},
		"b":   {so(), append(so(), do(api.Not))},
		"c":   {parts(load(0)), parts(load(1), push(text("x")), do(api.Less)), parts(load(3), load(3), do(api.Times), load(3), do(api.Same))},
		"d_0": {parts(load(0), load(4), do(api.Less)), parts(load(5), push(number(0)), do(api.Same))},
	}[name]
	wrong := append(badParts(), parts(load(0), load(0)), parts(do(api.Not)), parts(load(5)), parts(push(number(1))), parts(load(3)), most())
	switch n := r.Intn(12); {
	case n < 4:
		return nil
	case n == 11:
		return wrong[r.Intn(len(wrong))]
	case len(right) > 0:
		return right[r.Intn(len(right))]
	}
	return so()
}

// someName is mostly a name of which there is a schema.
func someName(r *rand.Rand) string {
	l := []string{"a", "a", "b", "b", "c", "c", "d_0", "d_0"}
	switch n := r.Intn(16 * len(l)); {
	case n < 14*len(l):
		return l[n%len(l)]
	case n%8 == 7:
		return notNames()[r.Intn(len(notNames()))]
	}
	return []string{"e", "aa", "d_1", "abcdefghijkl"}[r.Intn(4)]
}

// someStep is a step, mostly one that may be.
func someStep(r *rand.Rand, isFirst, isLast bool) api.Step {
	s := api.Step{Name: someName(r), Min: 1 + r.Intn(4)}
	s.Max = s.Min
	if !isLast {
		s.Max += r.Intn(5 - s.Min)
	}
	s.If = someOps(r, s.Name)
	if !isFirst && r.Intn(2) == 0 {
		s.Guard, s.NotName = true, someName(r)
		s.NotIf = someOps(r, s.NotName)
	}
	if r.Intn(60) == 0 {
		l := badSteps()
		l[r.Intn(len(l))](&s)
	}
	return s
}

// someQuery is a query, often one that is right by the schemas, and often not.
func someQuery(r *rand.Rand) api.Query {
	q := api.Query{Within: r.Intn(400)}
	n := 1 + r.Intn(4)
	for i := range n {
		q.Steps = append(q.Steps, someStep(r, i == 0, i == n-1))
	}
	q.AggStep = r.Intn(n)
	if q.Agg = r.Intn(4); q.Agg > 0 {
		q.AggF = []int{0, 0, 1, 3, 3, 5}[r.Intn(6)]
	}
	if r.Intn(30) == 0 {
		l := badTelling()
		l[r.Intn(len(l))](&q)
	}
	return q
}

// P9.1: Check, written out.
func TestCheckExamples(t *testing.T) {
	a, b, c, d := once("a"), once("b"), once("c"), once("d_0")
	less := parts(load(0), push(number(5)), do(api.Less))
	none := parts(load(1), load(1), do(api.Same)) // right by c, but none of a
	for i, x := range []struct {
		q    api.Query
		want api.Errno
	}{
		{of(a), api.OK},
		{of(b), api.OK},
		{of(a, b, c, d), api.OK},
		{three(), api.OK},
		{of(once("a", less...)), api.OK},
		{of(once("c", load(0))), api.OK},
		{of(once("b", so()...)), api.OK},
		{of(a, guarded(a, "a")), api.OK}, // an empty one has no kind, and no error
		{of(a, guarded(a, "c", load(0))), api.OK},
		{of(a, guarded(a, "c", none...)), api.OK},
		{within(of(a), 1<<50), api.OK},

		{of(once("e")), api.ErrNone},
		{of(once("aa")), api.ErrNone},
		{of(once("d")), api.ErrNone},
		{of(a, once("e")), api.ErrNone},
		{of(a, b, c, once("e")), api.ErrNone},
		{of(a, guarded(a, "e")), api.ErrNone},
		{of(a, guarded(a, "e", so()...)), api.ErrNone},
		{of(once("e", most()...)), api.ErrNone},
		{of(once("a", none...)), api.ErrNone}, // Kind's own
		{of(a, guarded(a, "a", none...)), api.ErrNone},
		{of(a, guarded(once("a", none...), "c", none...)), api.ErrNone},
		{of(a, guarded(once("c", none...), "a", none...)), api.ErrNone},

		{of(once("a", do(api.Not))), api.ErrForm},
		{of(once("a", most()...)), api.ErrForm},
		{of(a, once("c", load(0), load(0))), api.ErrForm},
		{of(a, guarded(a, "c", load(0), load(0))), api.ErrForm},
		{of(once("a", load(0), do(api.Not))), api.ErrType},
		{of(a, guarded(a, "a", load(0), do(api.Not))), api.ErrType},

		{of(once("a", load(0))), api.ErrType}, // right, but no Bool
		{of(once("a", push(number(1)))), api.ErrType},
		{of(once("c", load(1))), api.ErrType},
		{of(once("c", load(2))), api.ErrType},
		{of(once("c", load(3))), api.ErrType},
		{of(a, b, c, once("a", load(0))), api.ErrType},
		{of(a, guarded(a, "c", load(1))), api.ErrType},
		{of(a, guarded(a, "c", load(2))), api.ErrType},
		{of(a, guarded(a, "c", load(3))), api.ErrType},

		{of(once("a", load(0)), once("e")), api.ErrType}, // the first one on the way, step by step
		{of(once("e"), once("a", load(0))), api.ErrNone},
		{of(once("a", do(api.Not)), once("a", load(0))), api.ErrForm},
		{of(a, guarded(once("a", load(0)), "e")), api.ErrType},
		{of(a, guarded(once("a", do(api.Not)), "a", load(0))), api.ErrForm},
		{of(a, guarded(once("e"), "a", load(0))), api.ErrNone},
		{of(a, guarded(a, "a", load(0)), once("e")), api.ErrType},
		{of(a, guarded(a, "e"), once("a", load(0))), api.ErrNone},
		{of(a, guarded(a, "a", do(api.Or)), once("e")), api.ErrForm},

		{api.Query{}, api.ErrArg},
		{of(once("A")), api.ErrArg},
		{of(a, once("A")), api.ErrArg},
		{of(once("e"), once("")), api.ErrArg}, // ahead of all on the way
		{of(once("a", load(0)), once("a", do(10))), api.ErrArg},
		{within(of(once("e")), -1), api.ErrArg},
		{of(step("e", 1, 2)), api.ErrArg},
		{of(guarded(a, "e")), api.ErrArg},
	} {
		if got := query.Check(schemas(), x.q); got != x.want {
			t.Errorf("%d: Check(%v) = %v, want %v", i, x.q, got, x.want)
		}
	}
}

// P9.1: what is told is of an Int that the step's schema has, unless it is a Count; that is looked at behind all steps.
func TestCheckAgg(t *testing.T) {
	q := of(once("a"), once("b"), once("c"), once("d_0"))
	ints := [4]int{0, -1, 3, 5} // where a, b, c and d_0 have their one Int
	for at, have := range ints {
		if got := query.Check(schemas(), telling(q, api.Count, at, 0)); got != api.OK {
			t.Errorf("a Count of step %d is %v", at, got)
		}
		for agg := api.Sum; agg < api.Aggs; agg++ {
			for field := range 6 {
				want := api.ErrType
				if field == have {
					want = api.OK
				}
				if got := query.Check(schemas(), telling(q, agg, at, field)); got != want {
					t.Errorf("%d of field %d of step %d is %v, want %v", agg, field, at, got, want)
				}
			}
		}
	}
	for i, x := range []struct {
		q    api.Query
		want api.Errno
	}{
		{telling(of(once("b"), once("e")), api.Sum, 0, 0), api.ErrNone},
		{telling(of(once("b"), once("a", do(api.Not))), api.Max, 0, 0), api.ErrForm},
		{telling(of(once("b"), guarded(once("a"), "e")), api.Min, 0, 0), api.ErrNone},
		{telling(of(once("e"), once("b")), api.Min, 1, 0), api.ErrNone},
		{telling(of(once("b"), guarded(once("b"), "a")), api.Sum, 1, 0), api.ErrType}, // the step's own, not the guard's
		{telling(of(once("b"), guarded(once("a"), "b")), api.Sum, 1, 0), api.OK},
		{telling(of(once("a"), once("b")), api.Sum, 0, 0), api.OK},
		{telling(of(once("a"), once("b")), api.Sum, 1, 0), api.ErrType},
	} {
		if got := query.Check(schemas(), x.q); got != x.want {
			t.Errorf("%d: Check(%v) = %v, want %v", i, x.q, got, x.want)
		}
	}
}

// P9.1: by schemas of which a list may not be, and of a query that is not well made, all is ErrArg.
func TestCheckErrArg(t *testing.T) {
	for _, l := range badLists() {
		for _, q := range all() {
			if got := query.Check(l, q); got != api.ErrArg {
				t.Fatalf("Check(%v, %v) = %v", l, q, got)
			}
		}
	}
	for _, l := range [][]api.Schema{nil, {}, schemas(), schemas()[:1], schemas()[2:]} {
		for _, q := range bad() {
			if got := query.Check(l, q); got != api.ErrArg {
				t.Fatalf("Check(%v, %v) = %v", l, q, got)
			}
		}
		for _, q := range good() {
			if got := checkCheck(t, l, q); got == api.ErrArg {
				t.Fatalf("Check(%v, %v) = %v", l, q, got)
			}
		}
	}
	if got := query.Check(nil, of(once("a"))); got != api.ErrNone {
		t.Errorf("by no schemas it is %v", got)
	}
}

// P9.1: how many steps there are, and how often each is taken, written out.
func TestWellMadeOfEachSize(t *testing.T) {
	for n := range 7 {
		q := of(slices.Repeat([]api.Step{once("a")}, n)...)
		_, is := query.Put(q)
		if why := query.Check(schemas(), q); (why == api.OK) != (1 <= n && n <= 4) || is != (why == api.OK) {
			t.Errorf("of %d steps: %v, %v", n, why, is)
		}
	}
	for least := -1; least <= 6; least++ {
		for most := -1; most <= 6; most++ {
			s := step("a", least, most)
			may := 1 <= least && least <= most && most <= 4
			for i, x := range []struct {
				q    api.Query
				want bool
			}{
				{of(s), may && least == most},
				{of(s, once("a")), may},
				{of(once("a"), s), may && least == most},
				{of(once("a"), s, once("a")), may},
				{of(once("a"), guarded(s, "a"), once("a")), may},
				{of(once("a"), guarded(s, "a")), may && least == most},
			} {
				if why := query.Check(schemas(), x.q); (why == api.OK) != x.want || why != api.OK && why != api.ErrArg {
					t.Errorf("%d: from %d to %d times: %v", i, least, most, why)
				}
				checkPut(t, x.q)
			}
		}
	}
}

// P9.1: Check is what the document's words say, of many queries, each error among them.
func TestCheck(t *testing.T) {
	r := rand.New(rand.NewSource(9))
	told := map[api.Errno]int{}
	for range 40000 {
		q := someQuery(r)
		told[checkCheck(t, schemas(), q)]++
		checkCheck(t, schemas()[r.Intn(4):], q)
	}
	for _, why := range []api.Errno{api.OK, api.ErrArg, api.ErrForm, api.ErrNone, api.ErrType} {
		if told[why] < 100 {
			t.Errorf("%v was told %d times", why, told[why])
		}
	}
}

// P9.1: Same holds all parts against each other, whether well made or not.
func TestSame(t *testing.T) {
	l := slices.Concat(good(), bad()[:60], bad()[len(bad())-60:])
	for i, a := range l {
		for j, b := range l {
			if got, want := query.Same(a, clone(b)), same(a, b); got != want || i == j && !got {
				t.Fatalf("Same(%v, %v) = %v, want %v", a, b, got, want)
			}
		}
	}
	for _, q := range all() {
		if !query.Same(q, clone(q)) {
			t.Errorf("%v is not the same as itself", q)
		}
	}
}

// P9.1: Same where just one thing differs, whichever stands first.
func TestSameButOne(t *testing.T) {
	q := three()
	changes := []func(q *api.Query){
		func(q *api.Query) { q.Within++ },
		func(q *api.Query) { q.Agg++ },
		func(q *api.Query) { q.AggStep-- },
		func(q *api.Query) { q.AggF-- },
		func(q *api.Query) { q.Agg, q.AggStep = q.AggStep, q.Agg },
		func(q *api.Query) { q.Steps = nil },
		func(q *api.Query) { q.Steps = append(q.Steps, once("a")) },
	}
	for i := range q.Steps {
		changes = append(changes,
			func(q *api.Query) { q.Steps[i].Name += "x" },
			func(q *api.Query) { q.Steps[i].Min++ },
			func(q *api.Query) { q.Steps[i].Max-- },
			func(q *api.Query) { q.Steps[i].Guard = !q.Steps[i].Guard },
			func(q *api.Query) { q.Steps[i].NotName += "x" },
			func(q *api.Query) { q.Steps[i].If = append(q.Steps[i].If, do(api.Not)) },
			func(q *api.Query) { q.Steps[i].NotIf = append(q.Steps[i].NotIf, do(api.Not)) },
			func(q *api.Query) { q.Steps[i].If = parts(load(4)) },
			func(q *api.Query) { q.Steps[i].NotIf = parts(load(4)) },
			func(q *api.Query) { q.Steps = slices.Delete(q.Steps, i, i+1) },
			func(q *api.Query) { q.Steps = q.Steps[:i] },
			func(q *api.Query) { q.Steps = slices.Insert(q.Steps, i, q.Steps[i]) },
			func(q *api.Query) { q.Steps[i], q.Steps[(i+1)%3] = q.Steps[(i+1)%3], q.Steps[i] },
			func(q *api.Query) {
				s := &q.Steps[i]
				s.If, s.NotIf = append(so(), s.NotIf...), append(so(), s.If...)
			},
		)
	}
	for i, change := range changes {
		if other := with(q, change); query.Same(q, other) || query.Same(other, q) {
			t.Errorf("%d: %v is the same as %v", i, other, q)
		}
	}
	empty := api.Query{Steps: []api.Step{{If: []api.Op{}, NotIf: []api.Op{}}}}
	if bare := of(api.Step{}); !query.Same(empty, bare) || !query.Same(bare, empty) || !query.Same(api.Query{}, of([]api.Step{}...)) || !query.Same(api.Query{Steps: []api.Step{}}, api.Query{}) {
		t.Error("no list is not the same as an empty one")
	}
}

// P9.2: the bytes, written out.
func TestPutExamples(t *testing.T) {
	a := once("a")
	for i, c := range []struct {
		q    api.Query
		want string
	}{
		{of(a), "\x01\x01a\x00\x01\x01\x00\x00\x00\x00\x00"},
		{of(step("ab", 4, 4)), "\x01\x02ab\x00\x04\x04\x00\x00\x00\x00\x00"},
		{of(once("a", load(3))), "\x01\x01a\x01\x01\x03\x01\x01\x00\x00\x00\x00\x00"},
		{within(of(a), 300), "\x01\x01a\x00\x01\x01\x00\xac\x02\x00\x00\x00"},
		{within(of(a), 1<<50), "\x01\x01a\x00\x01\x01\x00\x80\x80\x80\x80\x80\x80\x80\x02\x00\x00\x00"},
		{telling(of(a, step("b", 2, 2)), api.Max, 1, 5), "\x02\x01a\x00\x01\x01\x00\x01b\x00\x02\x02\x00\x00\x03\x01\x05"},
		{telling(of(a, a), api.Count, 1, 0), "\x02\x01a\x00\x01\x01\x00\x01a\x00\x01\x01\x00\x00\x00\x01\x00"},
		{of(a, guarded(a, "xy")), "\x02\x01a\x00\x01\x01\x00\x01a\x00\x01\x01\x01\x02xy\x00\x00\x00\x00\x00"},
		{three(), "\x03\x01a\x03\x01\x00\x00\x00\x0a\x05\x02\x03\x00" + "\x01b\x00\x01\x04\x01\x01c\x01\x01\x00" + "\x01c\x02\x01\x00\x09\x02\x02\x01\x03d_0\x03\x01\x05\x01\x05\x06" + "\xac\x02\x01\x02\x03"},
		{of(once("abcdefghijkl")), "\x01\x0cabcdefghijkl\x00\x01\x01\x00\x00\x00\x00\x00"},
	} {
		if got, is := query.Put(c.q); string(got) != c.want || !is {
			t.Errorf("%d: Put(%v) = %v, %v, want %v", i, c.q, got, is, []byte(c.want))
		}
		if q, n, is := query.Get([]byte(c.want)); !same(q, c.q) || n != len(c.want) || !is {
			t.Errorf("%d: Get(%v) = %v, %d, %v, want %v", i, []byte(c.want), q, n, is, c.q)
		}
	}
}

// P9.2: Put is what the document's words say: nothing and false of what is not well made.
func TestPut(t *testing.T) {
	for _, q := range good() {
		if _, is := query.Put(q); !is {
			t.Errorf("Put(%v) is false", q)
		}
		checkPut(t, q)
	}
	for _, q := range bad() {
		if b, is := query.Put(q); len(b) != 0 || is {
			t.Errorf("Put(%v) = %v, %v", q, b, is)
		}
	}
	r := rand.New(rand.NewSource(92))
	for range 20000 {
		checkPut(t, someQuery(r))
	}
}

// P9.2, P9.3: what is put is got, alone and whatever stands behind it; no shorter piece of it is one.
func TestGetOfPut(t *testing.T) {
	for _, q := range good() {
		b, _ := query.Put(q)
		for _, tail := range [][]byte{nil, {0}, {1}, {128}, {255}, b, bytes.Repeat([]byte{255}, 20), bytes.Repeat([]byte{0}, 20)} {
			long := slices.Concat(b, tail)
			if got, n, is := query.Get(long); !is || !same(got, q) || n != len(b) {
				t.Errorf("Get(%v) = %v, %d, %v, want %v, %d", long, got, n, is, q, len(b))
			}
		}
		for i := range b {
			if got, n, is := query.Get(b[:i]); !isNone(got, n, is) {
				t.Errorf("Get(%v) = %v, %d, %v, want nothing", b[:i], got, n, is)
			}
		}
	}
	r := rand.New(rand.NewSource(93))
	for range 20000 {
		q := someQuery(r)
		b, is := query.Put(q)
		if got, n, there := query.Get(b); there != is || n != len(b) || is && !same(got, q) {
			t.Fatalf("Get(%v) = %v, %d, %v, want %v", b, got, n, there, q)
		}
	}
}

// P9.2: bytes by which no well made query is put are none: noughts and false.
func TestGetNone(t *testing.T) {
	a := "\x01a\x00\x01\x01\x00"                       // a step
	zeros := "\x00\x00\x00\x00"                        // what stands behind the steps
	x := strings.Repeat("x", 300)                      // more than a name's
	wide := "\x80\x80\x80\x80\x80\x80\x80\x80\x80\x01" // 2^63
	for _, s := range []string{
		"", "\x00", "\x80", "\xff", "\x01", "\x01\x01",
		"\x00" + zeros,
		"\x05" + strings.Repeat(a, 5) + zeros,
		"\x80\x02" + strings.Repeat(a, 256) + zeros,
		"\x81\x02" + strings.Repeat(a, 257) + zeros,
		"\x81\x80\x80\x80\x10" + a + zeros, // 2^32 + 1 steps
		wide + a + zeros,
		"\x81\x80\x80\x80\x80\x80\x80\x80\x80\x01" + a + zeros, // 2^63 + 1 steps
		"\xff\xff\xff\xff\xff\xff\xff\xff\xff\x01" + a + zeros, // 2^64 - 1 steps
		"\x81\x00" + a + zeros,                                 // as 1, but with a group more
		"\x02" + a + zeros,                                     // one step is not there
		"\x01" + a + a + zeros,                                 // what tells is a step's
		"\x01\x00\x00\x01\x01\x00" + zeros,                     // a name of nothing
		"\x01\x01A\x00\x01\x01\x00" + zeros,
		"\x01\x010\x00\x01\x01\x00" + zeros,
		"\x01\x02a\x00\x00\x01\x01\x00" + zeros,
		"\x01\x0dabcdefghijklm\x00\x01\x01\x00" + zeros,
		"\x01\xac\x02" + x + "\x00\x01\x01\x00" + zeros,
		"\x01" + wide + x,
		"\x01\xff\xff\xff\xff\xff\xff\xff\xff\xff\x01" + x,
		"\x01\x81\x00a\x00\x01\x01\x00" + zeros,
		"\x01\x01a\x01\x0a\x01\x01\x00" + zeros, // no expression
		"\x01\x01a\x01\x01\x06\x01\x01\x00" + zeros,
		"\x01\x01a\x0d" + strings.Repeat("\x09", 13) + "\x01\x01\x00" + zeros,
		"\x01\x01a\x80\x00\x01\x01\x00" + zeros,
		"\x01\x01a\x00\x00\x01\x00" + zeros, // not so often
		"\x01\x01a\x00\x00\x00\x00" + zeros,
		"\x01\x01a\x00\x05\x05\x00" + zeros,
		"\x01\x01a\x00\x02\x01\x00" + zeros,
		"\x01\x01a\x00\x01\x02\x00" + zeros,
		"\x02" + a + "\x01a\x00\x01\x02\x00" + zeros,
		"\x02\x01a\x00\x01\x05\x00" + a + zeros,
		"\x01\x01a\x00\x81\x00\x01\x00" + zeros,
		"\x01\x01a\x00\x01\x81\x00\x00" + zeros,
		"\x01\x01a\x00\x01" + wide + "\x00" + zeros,
		"\x01\x01a\x00" + wide + wide + "\x00" + zeros,
		"\x01\x01a\x00\x01\x01\x02" + zeros, // no such guard
		"\x02" + a + "\x01a\x00\x01\x01\x02\x01a\x00" + zeros,
		"\x02" + a + "\x01a\x00\x01\x01\x03\x01a\x00" + zeros,
		"\x02" + a + "\x01a\x00\x01\x01\x02" + zeros,
		"\x02" + a + "\x01a\x00\x01\x01\xff\x01\x01a\x00" + zeros,
		"\x02" + a + "\x01a\x00\x01\x01\x81\x00\x01a\x00" + zeros,
		"\x02" + a + "\x01a\x00\x01\x01\x80\x00" + zeros,
		"\x02" + a + "\x01a\x00\x01\x01\x81\x80\x80\x80\x80\x80\x80\x80\x80\x01\x01a\x00" + zeros,
		"\x01\x01a\x00\x01\x01\x01\x01a\x00" + zeros, // a guard of the first one
		"\x02\x01a\x00\x01\x01\x01\x01a\x00" + a + zeros,
		"\x02" + a + "\x01a\x00\x01\x01\x01\x00\x00" + zeros,
		"\x02" + a + "\x01a\x00\x01\x01\x01\x01A\x00" + zeros,
		"\x02" + a + "\x01a\x00\x01\x01\x01\x01a\x01\x0a" + zeros,
		"\x02" + a + "\x01a\x00\x01\x01\x01" + zeros,
		"\x01" + a + "\x81\x80\x80\x80\x80\x80\x80\x02\x00\x00\x00", // within 2^50 + 1
		"\x01" + a + wide + "\x00\x00\x00",
		"\x01" + a + "\xff\xff\xff\xff\xff\xff\xff\xff\xff\x01\x00\x00\x00",
		"\x01" + a + "\x80\x00\x00\x00\x00",
		"\x01" + a + "\x00\x04\x00\x00",
		"\x01" + a + "\x00\x80\x02\x00\x00",
		"\x01" + a + "\x00" + wide + "\x00\x00",
		"\x01" + a + "\x00\x00\x01\x00", // of a step that is none
		"\x01" + a + "\x00\x01\x01\x00",
		"\x01" + a + "\x00\x00" + wide + "\x00",
		"\x02" + a + a + "\x00\x01\x02\x00",
		"\x01" + a + "\x00\x00\x00\x01", // a Count of a field
		"\x01" + a + "\x00\x01\x00\x06",
		"\x01" + a + "\x00\x01\x00\x80\x00",
		"\x01" + a + "\x00\x01\x00" + wide,
		"\x01" + a + "\x00\x01\x00",
		"\x01" + a + "\x00\x01\x00\x80",
	} {
		b := []byte(s)
		if q, n, is := query.Get(b); !isNone(q, n, is) {
			t.Errorf("Get(%v) = %v, %d, %v, want nothing", b, q, n, is)
		}
		checkGet(t, b)
	}
	if q, n, is := query.Get(nil); !isNone(q, n, is) {
		t.Errorf("Get(nil) = %v, %d, %v, want nothing", q, n, is)
	}
}

// P9.2: Get is what the document's words say, of many bytes that look like a query's.
func TestGet(t *testing.T) {
	var there int
	note := func(is bool) {
		if is {
			there++
		}
	}
	signs := []byte{0, 1, 2, 4, 5, 6, 'a', 128}
	var grow func(b []byte, more int)
	grow = func(b []byte, more int) {
		note(checkGet(t, b))
		if more == 0 {
			return
		}
		for _, x := range signs {
			grow(append(b[:len(b):len(b)], x), more-1)
		}
	}
	grow(nil, 5)
	for _, head := range []string{"\x01\x01a\x00\x01\x01", "\x01\x01a\x00", "\x02\x01a\x00\x01\x01\x00\x01a\x00\x01\x01", "\x02\x01a\x00\x01\x01\x00\x01a\x00\x01\x01\x01\x01a\x00"} {
		grow([]byte(head), 5)
	}
	r := rand.New(rand.NewSource(94))
	for range 50000 {
		b := make([]byte, r.Intn(40))
		for i := range b {
			b[i] = "\x00\x00\x00\x01\x01\x01\x02\x03\x04\x05\x06\x07\x09aab_0A\x80\x81\xff"[r.Intn(22)]
		}
		note(checkGet(t, b))
	}
	if there < 100 {
		t.Errorf("just %d of them were queries", there)
	}
}

// P9.2: one byte more, less, or other than Put's is got by the document's words too.
func TestGetOfAlmostPut(t *testing.T) {
	for _, q := range good() {
		b, _ := query.Put(q)
		if len(b) > 400 {
			b = b[len(b)-400:]
		}
		for i := range b {
			for bit := range 8 {
				c := bytes.Clone(b)
				c[i] ^= 1 << bit
				checkGet(t, c)
			}
			checkGet(t, slices.Delete(bytes.Clone(b), i, i+1))
			for _, x := range []byte{0, 1, 2, 5, 'a', 128} {
				checkGet(t, slices.Insert(bytes.Clone(b), i, x))
			}
		}
	}
}

// P9.3: two that are not the same are put unlike, and neither one's bytes are a beginning of the other one's.
func TestPutApart(t *testing.T) {
	l := good()
	for i, a := range l {
		p, _ := query.Put(a)
		for j, b := range l {
			q, _ := query.Put(b)
			if like := bytes.HasPrefix(p, q); like != same(a, b) {
				t.Errorf("%d and %d: %v of %v, %v of %v", i, j, p, a, q, b)
			}
		}
	}
}

// grown is a list with a schema more, of a new name, or the next version of one it has.
func grown(t *testing.T, r *rand.Rand, l []api.Schema) []api.Schema {
	t.Helper()
	next := api.Schema{Name: []string{"e", "aa", "d_1", "abcdefghijkl"}[r.Intn(4)], Ver: 1, F: []api.Field{{Name: "new", Kind: r.Intn(4)}}}
	if i := r.Intn(2 * len(l)); i < len(l) {
		next = l[i]
	}
	if old, is := registry.Find(l, next.Name); is {
		next = old
		next.Ver++
		if len(next.F) < 6 && r.Intn(2) == 0 {
			next.F = append(slices.Clone(next.F), api.Field{Name: "v" + string(rune('0'+len(next.F))), Kind: r.Intn(4)})
		}
	}
	more, why := registry.Add(l, next)
	if why != api.OK {
		return l // d_0 has no next version
	}
	return more
}

// P9.3: a query that is right by schemas is so by more of them, and by their next versions.
func TestRightByMore(t *testing.T) {
	r := rand.New(rand.NewSource(95))
	var l []api.Query
	for len(l) < 500 {
		if q := someQuery(r); query.Check(schemas(), q) == api.OK {
			l = append(l, q)
		}
	}
	for range 40 {
		more := schemas()
		for range 12 {
			more = grown(t, r, more)
			for _, q := range append(l, three()) {
				if why := query.Check(more, q); why != api.OK {
					t.Fatalf("Check(%v, %v) = %v", more, q, why)
				}
			}
		}
	}
}

// R3: what is handed in stays as it was, also what stands behind it.
func TestArgumentsStayAsTheyWere(t *testing.T) {
	for _, q := range all() {
		if len(q.Steps) == 0 {
			continue
		}
		room := append(clone(q).Steps, once("behind", so()...))
		ops := append(slices.Clone(q.Steps[0].If), do(api.Not), load(4))
		room[0].If = ops[:len(q.Steps[0].If)]
		was, wereOps := clone(of(room...)), slices.Clone(ops)
		given := q
		given.Steps = room[:len(q.Steps)]
		l := schemas()
		query.Check(l, given)
		query.Same(given, given)
		query.Put(given)
		if !same(of(room...), was) || !slices.Equal(ops, wereOps) || !registry.Same(l, schemas()) {
			t.Fatalf("%v became %v", was, room)
		}
	}
}

// R3: what is answered is the caller's own, and does not hang on what was handed in.
func TestAnswersAreOwn(t *testing.T) {
	for _, q := range good() {
		b, _ := query.Put(q)
		kept := bytes.Clone(b)
		got, _, _ := query.Get(b)
		other, _, _ := query.Get(b)
		for i := range b[:cap(b)] {
			b[:cap(b)][i] ^= 85
		}
		for _, s := range other.Steps {
			clear(s.If[:cap(s.If)])
			clear(s.NotIf[:cap(s.NotIf)])
		}
		clear(other.Steps[:cap(other.Steps)])
		if !same(got, q) {
			t.Errorf("%v became %v", q, got)
		}
		if again, _ := query.Put(q); !bytes.Equal(again, kept) {
			t.Errorf("Put(%v) = %v, when an earlier answer was changed", q, again)
		}
	}
}

// R5: what was asked before changes nothing.
func TestNothingKept(t *testing.T) {
	for range 3 {
		for _, q := range all() {
			checkCheck(t, schemas(), q)
			checkPut(t, q)
			b, _ := query.Put(q)
			checkGet(t, b)
		}
	}
}

// R1: many steps, long names, many bytes, of which few are taken.
func TestLongArguments(t *testing.T) {
	many := of(slices.Repeat([]api.Step{once("a")}, 1<<16)...)
	long := of(once(strings.Repeat("a", 1<<20), slices.Repeat(so(), 1<<16)...))
	for _, q := range []api.Query{many, long} {
		checkCheck(t, schemas(), q)
		checkPut(t, q)
		if !query.Same(q, clone(q)) || query.Same(q, of(once("a"))) {
			t.Error("long ones are told wrongly")
		}
	}
	b, _ := query.Put(three())
	for _, long := range [][]byte{slices.Concat(b, make([]byte, 1<<20)), make([]byte, 1<<20), bytes.Repeat([]byte{1}, 1<<20), bytes.Repeat([]byte{4}, 1<<20), bytes.Repeat([]byte{255}, 1<<20)} {
		checkGet(t, long)
	}
}
