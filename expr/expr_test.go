package expr_test

import (
	"bytes"
	"encoding/binary"
	"math"
	"math/big"
	"math/rand"
	"slices"
	"strings"
	"testing"

	"towncrier/api"
	"towncrier/event"
	"towncrier/expr"
	"towncrier/schema"
	"towncrier/value"
)

func number(n int) api.Value  { return api.Value{Kind: api.Int, N: n} }
func truth(n int) api.Value   { return api.Value{Kind: api.Bool, N: n} }
func text(s string) api.Value { return api.Value{Kind: api.Bytes, S: s} }
func moment(n int) api.Value  { return api.Value{Kind: api.Time, N: n} }

func push(v api.Value) api.Op { return api.Op{Code: api.Push, V: v} }
func load(at int) api.Op      { return api.Op{Code: api.Load, Arg: at} }
func do(code int) api.Op      { return api.Op{Code: code} }

// parts is an expression of these parts.
func parts(l ...api.Op) []api.Op { return l }

// of is an event of these values.
func of(l ...api.Value) api.Event {
	return api.Event{Name: "a", At: 5, V: l}
}

// like is a schema of fields that are called f0, f1 and so on, of these kinds.
func like(kinds ...int) api.Schema {
	s := api.Schema{Name: "a", Ver: 1}
	for i, kind := range kinds {
		s.F = append(s.F, api.Field{Name: "f" + string(rune('0'+i)), Kind: kind})
	}
	return s
}

// schemaOf is a schema by which an event is valid, if both may be.
func schemaOf(e api.Event) api.Schema {
	var kinds []int
	for _, v := range e.V {
		kinds = append(kinds, v.Kind)
	}
	s := like(kinds...)
	s.Name = e.Name
	return s
}

// may is which expression may be, by the document's words.
func may(l []api.Op) bool {
	wrong := 0
	for _, op := range l {
		arg, v := op.Arg == 0, op.V == api.Value{}
		if op.Code == 1 {
			arg = 0 <= op.Arg && op.Arg <= 5
		}
		if op.Code == 0 {
			v = value.May(op.V)
		}
		if op.Code < 0 || op.Code > 9 || !arg || !v {
			wrong++
		}
	}
	return len(l) <= 12 && wrong == 0
}

// whole is a value of an Int, of any size; what else is reckoned with is its N.
func whole(v api.Value) *big.Int { return big.NewInt(int64(v.N)) }

func truthOf(is bool) api.Value {
	if is {
		return truth(1)
	}
	return truth(0)
}

// two is what comes of two values, by the document's words.
func two(code int, left, last api.Value) (api.Value, api.Errno) {
	none := api.Value{}
	switch code {
	case 2, 3, 4:
		if left.Kind != 0 || last.Kind != 0 {
			return none, 5
		}
		n := new(big.Int)
		switch code {
		case 2:
			n.Add(whole(left), whole(last))
		case 3:
			n.Sub(whole(left), whole(last))
		case 4:
			n.Mul(whole(left), whole(last))
		}
		if !n.IsInt64() {
			return none, 6
		}
		return number(int(n.Int64())), 0
	case 5:
		if left.Kind != last.Kind || left.Kind == 1 {
			return none, 5
		}
		is, _ := value.Less(left, last)
		return truthOf(is), 0
	case 6:
		if left.Kind != last.Kind {
			return none, 5
		}
		return truthOf(left == last), 0
	case 7, 8:
		if left.Kind != 1 || last.Kind != 1 {
			return none, 5
		}
		so := left.N + last.N
		return truthOf(so == 2 || so == 1 && code == 8), 0
	}
	panic("no code of two")
}

// goThrough goes through an expression by the document's words; join tells what comes of two.
func goThrough(values []api.Value, l []api.Op, join func(code int, left, last api.Value) (api.Value, api.Errno)) (api.Value, api.Errno) {
	var pile []api.Value
	for _, op := range l {
		n := len(pile)
		switch {
		case op.Code == 0:
			pile = append(pile, op.V)
		case op.Code == 1 && op.Arg >= len(values):
			return api.Value{}, 3
		case op.Code == 1:
			pile = append(pile, values[op.Arg])
		case op.Code == 9 && n < 1, op.Code != 9 && n < 2:
			return api.Value{}, 2
		case op.Code == 9 && pile[n-1].Kind != 1:
			return api.Value{}, 5
		case op.Code == 9:
			pile[n-1].N = 1 - pile[n-1].N
		default:
			v, why := join(op.Code, pile[n-2], pile[n-1])
			if why != 0 {
				return api.Value{}, why
			}
			pile = append(pile[:n-2], v)
		}
	}
	if len(pile) != 1 {
		return api.Value{}, 2
	}
	return pile[0], 0
}

// eval is Eval by the document's words.
func eval(e api.Event, l []api.Op) (api.Value, api.Errno) {
	if !may(l) || !event.May(e) {
		return api.Value{}, 1
	}
	return goThrough(e.V, l, two)
}

// kind is Kind by the document's words: of the kinds alone, written out.
func kind(s api.Schema, l []api.Op) (int, api.Errno) {
	if !schema.May(s) || !may(l) {
		return 0, 1
	}
	var values []api.Value
	for _, f := range s.F {
		values = append(values, api.Value{Kind: f.Kind})
	}
	v, why := goThrough(values, l, func(code int, left, last api.Value) (api.Value, api.Errno) {
		to, is := kinds[[3]int{code, left.Kind, last.Kind}]
		if !is {
			return api.Value{}, 5
		}
		return api.Value{Kind: to}, 0
	})
	return v.Kind, why
}

// kinds is what kind comes of two, by code, left one and last one; where there is none they are of other kinds.
var kinds = map[[3]int]int{
	{2, 0, 0}: 0, {3, 0, 0}: 0, {4, 0, 0}: 0,
	{5, 0, 0}: 1, {5, 2, 2}: 1, {5, 3, 3}: 1,
	{6, 0, 0}: 1, {6, 1, 1}: 1, {6, 2, 2}: 1, {6, 3, 3}: 1,
	{7, 1, 1}: 1, {8, 1, 1}: 1,
}

// put is Put by the document's words.
func put(l []api.Op) ([]byte, bool) {
	if !may(l) {
		return nil, false
	}
	b := binary.AppendUvarint(nil, uint64(len(l)))
	for _, op := range l {
		b = append(b, byte(op.Code))
		if op.Code == 0 {
			v, _ := value.Put(op.V)
			b = append(b, v...)
		}
		if op.Code == 1 {
			b = append(b, byte(op.Arg))
		}
	}
	return b, true
}

// get is Get by the document's words: what bytes might tell, if they begin by what is put of that.
func get(b []byte) ([]api.Op, int, bool) {
	l := guess(b)
	if p, is := put(l); is && bytes.HasPrefix(b, p) {
		return l, len(p), true
	}
	return nil, 0, false
}

// guess is the one expression that bytes might tell; it stops where they end, or no value is there.
func guess(b []byte) []api.Op {
	n, used := binary.Uvarint(b)
	b = b[max(used, 0):]
	var l []api.Op
	for range min(n, 20) {
		if len(b) == 0 {
			break
		}
		op := api.Op{Code: int(b[0])}
		b = b[1:]
		if op.Code == 1 && len(b) > 0 {
			op.Arg, b = int(b[0]), b[1:]
		}
		if op.Code == 0 {
			v, used, is := value.Get(b)
			if !is {
				break
			}
			op.V, b = v, b[used:]
		}
		l = append(l, op)
	}
	return l
}

// edges are Ints at which sums and products grow too great, and some that are small.
func edges() []int {
	l := []int{0, 1, 2, 3, 7, 10, 1 << 31, 1<<31 - 1, 1 << 32, 3037000499, 3037000500, 1 << 61, 1 << 62, 1<<62 + 1, 1<<62 - 1, math.MaxInt / 3, math.MaxInt / 2, math.MaxInt - 1, math.MaxInt}
	for _, n := range slices.Clone(l) {
		l = append(l, -n, -n-1)
	}
	return append(l, math.MinInt)
}

// goodValues are values that may be, of each kind, the edges among them.
func goodValues() []api.Value {
	return []api.Value{
		number(0), number(1), number(-1), number(300), number(math.MaxInt), number(math.MinInt),
		truth(0), truth(1),
		text(""), text("\x00"), text("a"), text("ab"), text("b"), text("\xff\x80"), text("é"), text(strings.Repeat("y", 40)),
		moment(0), moment(1), moment(128), moment(1 << 50),
	}
}

// badValues are values that may not be.
func badValues() []api.Value {
	return []api.Value{
		truth(2), truth(-1), truth(256), moment(-1), moment(1<<50 + 1), moment(math.MinInt),
		text(strings.Repeat("x", 41)),
		{Kind: api.Int, S: "a"}, {Kind: api.Bool, N: 1, S: "\x00"}, {Kind: api.Time, S: "a"}, {Kind: api.Bytes, N: 1}, {Kind: api.Bytes, N: -1, S: "a"},
		{Kind: 4}, {Kind: -1}, {Kind: 256}, {Kind: 1 << 32}, {Kind: math.MaxInt}, {Kind: math.MinInt, S: "a"},
	}
}

// badParts are parts that may not be.
func badParts() []api.Op {
	var l []api.Op
	for _, code := range []int{-1, 10, 11, 255, 256, 257, 258, 1 << 32, math.MaxInt, math.MinInt} {
		l = append(l, do(code), api.Op{Code: code, Arg: 1}, api.Op{Code: code, V: number(1)})
	}
	for _, v := range badValues() {
		l = append(l, push(v))
	}
	for _, arg := range []int{-1, 6, 7, 255, 256, 257, 1 << 32, math.MaxInt, math.MinInt} {
		l = append(l, load(arg))
	}
	for code := range api.Codes {
		if code != api.Load {
			l = append(l, api.Op{Code: code, Arg: 1}, api.Op{Code: code, Arg: -1}, api.Op{Code: code, Arg: 256})
		}
		if code == api.Push {
			continue
		}
		for _, v := range []api.Value{number(1), number(-1), truth(0), truth(1), text(""), text("a"), moment(0), {S: "a"}, {Kind: 4}, {Kind: -1}} {
			l = append(l, api.Op{Code: code, V: v})
		}
	}
	return l
}

// goodParts are parts that may be, one at least of each code.
func goodParts() []api.Op {
	var l []api.Op
	for _, v := range goodValues() {
		l = append(l, push(v))
	}
	for at := range api.MaxFields {
		l = append(l, load(at))
	}
	for code := api.Plus; code < api.Codes; code++ {
		l = append(l, do(code))
	}
	return l
}

// good are expressions that may be, whether they come to something or not.
func good() [][]api.Op {
	l := [][]api.Op{
		nil,
		{},
		{load(0), push(number(5)), do(api.Less)},
		{load(0), load(1), do(api.Plus), load(2), do(api.Times), push(number(7)), do(api.Same), do(api.Not)},
		{load(5), load(4), load(3), load(2), load(1), load(0)},
		{push(text("ab")), load(2), do(api.Same), push(truth(1)), do(api.And), push(truth(0)), do(api.Or)},
		slices.Repeat(parts(do(api.Not)), 12),
		slices.Repeat(parts(push(text(strings.Repeat("z", 40)))), 12),
	}
	for _, op := range goodParts() {
		l = append(l, parts(op))
		for _, n := range []int{2, 3, 11, 12} {
			l = append(l, slices.Repeat(parts(op), n), append(slices.Repeat(parts(push(truth(1))), n-1), op))
		}
	}
	return l
}

// bad are expressions that may not be: a part that may not be at each place, and too many.
func bad() [][]api.Op {
	l := [][]api.Op{
		slices.Repeat(parts(push(number(1))), 13),
		append(parts(push(truth(1))), slices.Repeat(parts(do(api.Not)), 12)...),
		slices.Repeat(parts(do(api.And)), 14),
		make([]api.Op, 128),
		make([]api.Op, 256),
		make([]api.Op, 1000),
	}
	for _, op := range badParts() {
		l = append(l, parts(op))
		for i := range 4 {
			four := parts(push(number(1)), load(0), do(api.Less), do(api.Not))
			four[i] = op
			l = append(l, four)
		}
		l = append(l, append(slices.Repeat(parts(push(number(1))), 11), op))
	}
	return l
}

func all() [][]api.Op {
	return append(good(), bad()...)
}

// goodEvents are events that may be, of values of each kind.
func goodEvents() []api.Event {
	return []api.Event{
		of(),
		{Name: "a", At: 1 << 50, V: []api.Value{}},
		of(number(4)), of(number(5)), of(number(math.MaxInt)), of(truth(1)), of(truth(0)), of(text("ab")), of(moment(7)),
		of(number(1), number(2), number(3)),
		of(number(math.MinInt), number(-1), number(1), number(math.MaxInt)),
		of(truth(1), truth(0), text(""), text("b"), moment(0), moment(1<<50)),
		of(number(-5), truth(1), text("news"), moment(9), number(5), truth(0)),
		of(slices.Repeat([]api.Value{number(2)}, 6)...),
	}
}

// badEvents are events that may not be.
func badEvents() []api.Event {
	l := []api.Event{
		{},
		{Name: "A", At: 1},
		{Name: "a", At: -1},
		{Name: "a", At: 1<<50 + 1},
		{Name: "abcdefghijklm"},
		of(make([]api.Value, 7)...),
		of(make([]api.Value, 300)...),
	}
	for _, v := range badValues() {
		l = append(l, of(v), of(number(1), truth(1), v))
	}
	return l
}

// badSchemas are schemas that may not be.
func badSchemas() []api.Schema {
	twice := like(0, 1)
	twice.F[1].Name = twice.F[0].Name
	return []api.Schema{
		{}, {Name: "a"}, {Name: "a", Ver: 1001}, {Name: "a", Ver: -1}, {Name: "A", Ver: 1}, {Ver: 1},
		twice, like(4), like(0, -1), like(0, 0, 0, 0, 0, 0, 0),
	}
}

func same(a, b []api.Op) bool {
	if len(a) != len(b) {
		return false
	}
	for i := range a {
		x, y := a[i], b[i]
		if x.Code != y.Code || x.Arg != y.Arg || x.V.Kind != y.V.Kind || x.V.N != y.V.N || x.V.S != y.V.S {
			return false
		}
	}
	return true
}

func checkKind(t *testing.T, s api.Schema, l []api.Op) {
	t.Helper()
	got, why := expr.Kind(s, l)
	want, because := kind(s, l)
	if got != want || why != because {
		t.Fatalf("Kind(%v, %v) = %v, %v, want %v, %v", s, l, got, why, want, because)
	}
}

func checkEval(t *testing.T, e api.Event, l []api.Op) {
	t.Helper()
	got, why := expr.Eval(e, l)
	want, because := eval(e, l)
	if got != want || why != because {
		t.Fatalf("Eval(%v, %v) = %v, %v, want %v, %v", e, l, got, why, want, because)
	}
	holds := len(l) == 0 || because == 0 && want.Kind == 1 && want.N == 1
	if is := expr.Holds(e, l); is != holds {
		t.Fatalf("Holds(%v, %v) = %v, want %v", e, l, is, holds)
	}
}

// checkFits holds Eval, of an event that is valid by its own schema, against Kind by that.
func checkFits(t *testing.T, e api.Event, l []api.Op) {
	t.Helper()
	k, why := expr.Kind(schemaOf(e), l)
	v, because := expr.Eval(e, l)
	switch {
	case why == api.OK && because != api.ErrOver && (because != api.OK || v.Kind != k):
		t.Fatalf("Kind of %v is %v, of %v it comes to %v, %v", l, k, e, v, because)
	case why != api.OK && because != why && because != api.ErrOver:
		t.Fatalf("Kind of %v is %v, of %v it comes to %v, %v", l, why, e, v, because)
	case because == api.OK && !value.May(v):
		t.Fatalf("%v comes to %v of %v", l, v, e)
	}
}

// somePart is a part, mostly one that may be, on a pile of so many things.
func somePart(r *rand.Rand, high int) api.Op {
	switch n := r.Intn(40); {
	case n == 0:
		return badParts()[r.Intn(len(badParts()))]
	case high < 2 && n < 30 || n < 14:
		if r.Intn(2) == 0 {
			return load(r.Intn(6))
		}
		return push(someValue(r))
	case high < 2 && n < 36:
		return do(api.Not)
	}
	return do(api.Plus + r.Intn(8))
}

// someValue is a value that may be; many are alike.
func someValue(r *rand.Rand) api.Value {
	if r.Intn(3) == 0 {
		e := edges()
		return number(e[r.Intn(len(e))])
	}
	l := goodValues()
	return l[r.Intn(len(l))]
}

// someExpr is an expression that often comes to something, and often does not.
func someExpr(r *rand.Rand) []api.Op {
	var l []api.Op
	high := 0
	for range r.Intn(14) {
		op := somePart(r, high)
		switch {
		case op.Code == api.Push || op.Code == api.Load:
			high++
		case op.Code != api.Not:
			high = max(0, high-1)
		}
		l = append(l, op)
	}
	return l
}

// rightExpr is an expression that comes to that kind of fields of these kinds, if no number is too great; so deep at most.
func rightExpr(r *rand.Rand, kind, deep int, fields []int) []api.Op {
	if deep == 0 || kind == api.Bytes || kind == api.Time || r.Intn(6) == 0 {
		return parts(leaf(r, kind, fields))
	}
	if kind == api.Int {
		return join(r, api.Int, api.Plus+r.Intn(3), deep, fields)
	}
	switch code := api.Less + r.Intn(5); code {
	case api.Not:
		return append(rightExpr(r, api.Bool, deep-1, fields), do(api.Not))
	case api.And, api.Or:
		return join(r, api.Bool, code, deep, fields)
	case api.Same:
		return join(r, r.Intn(4), code, deep, fields)
	default:
		return join(r, []int{api.Int, api.Bytes, api.Time}[r.Intn(3)], code, deep, fields)
	}
}

// join is two expressions of a kind, and what is made of both.
func join(r *rand.Rand, kind, code, deep int, fields []int) []api.Op {
	return slices.Concat(rightExpr(r, kind, deep-1, fields), rightExpr(r, kind, deep-1, fields), parts(do(code)))
}

// leaf is a part that lays a value of a kind.
func leaf(r *rand.Rand, kind int, fields []int) api.Op {
	for range 3 {
		if i := r.Intn(6); i < len(fields) && fields[i] == kind {
			return load(i)
		}
	}
	for {
		if v := someValue(r); v.Kind == kind {
			return push(v)
		}
	}
}

// someFields are up to six kinds.
func someFields(r *rand.Rand) []int {
	l := make([]int, r.Intn(7))
	for i := range l {
		l[i] = r.Intn(4)
	}
	return l
}

// someEvent is an event of values of these kinds.
func someEvent(r *rand.Rand, fields []int) api.Event {
	e := of()
	for _, kind := range fields {
		e.V = append(e.V, leaf(r, kind, nil).V)
	}
	return e
}

// eachShort hands on all expressions of at most so many parts, of a few parts of each code.
func eachShort(most int, f func([]api.Op)) {
	few := parts(push(number(3)), push(number(math.MaxInt)), push(truth(1)), push(text("b")), load(0), load(2),
		do(api.Plus), do(api.Times), do(api.Less), do(api.Same), do(api.And), do(api.Not))
	var grow func(l []api.Op)
	grow = func(l []api.Op) {
		f(slices.Clone(l))
		if len(l) == most {
			return
		}
		for _, op := range few {
			grow(append(l[:len(l):len(l)], op))
		}
	}
	grow(nil)
}

// P8.1: Kind, written out: what an expression comes to, or the first error.
func TestKindExamples(t *testing.T) {
	s := like(api.Int, api.Bool, api.Bytes, api.Time)
	most := push(number(math.MaxInt))
	for i, c := range []struct {
		s    api.Schema
		l    []api.Op
		want int
		why  api.Errno
	}{
		{s, parts(load(0), push(number(5)), do(api.Less)), api.Bool, api.OK},
		{s, parts(load(0)), api.Int, api.OK},
		{s, parts(load(1)), api.Bool, api.OK},
		{s, parts(load(2)), api.Bytes, api.OK},
		{s, parts(load(3)), api.Time, api.OK},
		{s, parts(push(moment(5))), api.Time, api.OK},
		{like(), parts(push(text("a"))), api.Bytes, api.OK},
		{api.Schema{Name: "z", Ver: 1000, F: []api.Field{}}, parts(push(truth(0)), do(api.Not)), api.Bool, api.OK},
		{s, parts(load(1), do(api.Not), do(api.Not)), api.Bool, api.OK},
		{s, parts(load(0), load(0), do(api.Plus), load(0), do(api.Times), push(number(1)), do(api.Minus)), api.Int, api.OK},
		{s, parts(load(3), push(moment(7)), do(api.Less)), api.Bool, api.OK},
		{s, parts(load(2), push(text("x")), do(api.Less)), api.Bool, api.OK},
		{s, parts(load(1), load(1), do(api.Same)), api.Bool, api.OK},
		{like(3, 3, 3, 3, 3, 0), parts(load(5)), api.Int, api.OK},

		{s, parts(most, push(number(1)), do(api.Plus)), api.Int, api.OK}, // no number is too great
		{s, parts(push(number(math.MinInt)), push(number(1)), do(api.Minus)), api.Int, api.OK},
		{s, parts(push(number(math.MinInt)), push(number(-1)), do(api.Times)), api.Int, api.OK},
		{s, parts(most, most, do(api.Times), most, do(api.Times), most, do(api.Less)), api.Bool, api.OK},
		{s, parts(most, most, do(api.Plus), do(api.Not)), 0, api.ErrType},
		{s, parts(most, most, do(api.Plus), load(4)), 0, api.ErrNone},
		{s, parts(most, most, do(api.Plus), load(0)), 0, api.ErrForm},

		{s, nil, 0, api.ErrForm}, // nothing is on the pile
		{s, parts(load(0), load(0)), 0, api.ErrForm},
		{s, parts(do(api.Not)), 0, api.ErrForm},
		{s, parts(do(api.Plus)), 0, api.ErrForm},
		{s, parts(load(0), do(api.Plus)), 0, api.ErrForm},
		{s, parts(load(1), do(api.Plus)), 0, api.ErrForm}, // there is none, ahead of its kind
		{s, parts(load(0), do(api.And)), 0, api.ErrForm},
		{s, parts(do(api.Same), load(0), load(0)), 0, api.ErrForm},
		{s, parts(load(0), load(0), do(api.Plus), do(api.Plus)), 0, api.ErrForm},

		{s, parts(load(4)), 0, api.ErrNone},
		{s, parts(load(5)), 0, api.ErrNone},
		{like(), parts(load(0)), 0, api.ErrNone},

		{s, parts(load(0), do(api.Not)), 0, api.ErrType},
		{s, parts(load(2), do(api.Not)), 0, api.ErrType},
		{s, parts(load(3), do(api.Not)), 0, api.ErrType},
		{s, parts(load(0), load(3), do(api.Plus)), 0, api.ErrType},
		{s, parts(load(3), load(3), do(api.Plus)), 0, api.ErrType},
		{s, parts(load(3), load(3), do(api.Minus)), 0, api.ErrType},
		{s, parts(load(1), load(1), do(api.Less)), 0, api.ErrType},
		{s, parts(load(0), load(3), do(api.Same)), 0, api.ErrType},
		{s, parts(load(0), load(0), do(api.And)), 0, api.ErrType},

		{s, parts(load(4), do(api.Not)), 0, api.ErrNone}, // the first one on the way
		{s, parts(do(api.Not), load(4)), 0, api.ErrForm},
		{s, parts(load(0), do(api.Not), load(4)), 0, api.ErrType},
		{s, parts(load(0), do(api.Not), do(api.And)), 0, api.ErrType},
		{s, parts(load(0), do(api.And), do(api.Not)), 0, api.ErrForm},
		{s, parts(load(0), load(0), load(1), do(api.Plus)), 0, api.ErrType}, // ahead of two things at last
		{s, parts(load(0), load(0), load(5)), 0, api.ErrNone},

		{api.Schema{}, parts(load(0)), 0, api.ErrArg},
		{api.Schema{}, nil, 0, api.ErrArg}, // ahead of ErrForm
		{api.Schema{Name: "a"}, parts(push(number(1))), 0, api.ErrArg},
		{like(4), parts(push(number(1))), 0, api.ErrArg},
		{s, parts(do(10)), 0, api.ErrArg},
		{s, parts(do(-1)), 0, api.ErrArg},
		{s, parts(load(6)), 0, api.ErrArg}, // not ErrNone
		{s, parts(load(-1)), 0, api.ErrArg},
		{s, parts(push(truth(2))), 0, api.ErrArg},
		{s, parts(do(api.Not), push(truth(2))), 0, api.ErrArg}, // ahead of all on the way
		{s, parts(load(4), do(10)), 0, api.ErrArg},
	} {
		if got, why := expr.Kind(c.s, c.l); got != c.want || why != c.why {
			t.Errorf("%d: Kind(%v, %v) = %v, %v, want %v, %v", i, c.s, c.l, got, why, c.want, c.why)
		}
	}
}

// P8.1: of each code, and any two kinds, what kind comes of both, pushed or loaded.
func TestKindOfTwo(t *testing.T) {
	s := like(0, 1, 2, 3)
	sample := []api.Value{number(1), truth(1), text("a"), moment(1)}
	for code := api.Plus; code < api.Not; code++ {
		for a := range api.Kinds {
			for b := range api.Kinds {
				want, is := kinds[[3]int{code, a, b}]
				why := api.ErrType
				if is {
					why = api.OK
				}
				for _, left := range parts(load(a), push(sample[a])) {
					for _, last := range parts(load(b), push(sample[b])) {
						l := parts(left, last, do(code))
						if got, because := expr.Kind(s, l); got != want || because != why {
							t.Errorf("Kind(%v) = %v, %v, want %v, %v", l, got, because, want, why)
						}
						if v, because := expr.Eval(of(sample...), l); v.Kind != want || because != why {
							t.Errorf("Eval(%v) = %v, %v, want %v, %v", l, v, because, want, why)
						}
					}
				}
			}
		}
	}
}

// P8.1, P8.2: what may not be is ErrArg, of Kind and of Eval, and of no other expression.
func TestErrArg(t *testing.T) {
	fine := parts(push(number(1)))
	for _, l := range bad() {
		for _, s := range append(badSchemas(), like(), like(0, 1, 2, 3)) {
			if got, why := expr.Kind(s, l); got != 0 || why != api.ErrArg {
				t.Fatalf("Kind(%v, %v) = %v, %v", s, l, got, why)
			}
		}
		for _, e := range append(badEvents(), goodEvents()...) {
			if got, why := expr.Eval(e, l); got != (api.Value{}) || why != api.ErrArg || expr.Holds(e, l) {
				t.Fatalf("Eval(%v, %v) = %v, %v", e, l, got, why)
			}
		}
	}
	for _, l := range append(good(), fine) {
		for _, s := range badSchemas() {
			if got, why := expr.Kind(s, l); got != 0 || why != api.ErrArg {
				t.Fatalf("Kind(%v, %v) = %v, %v", s, l, got, why)
			}
		}
		for _, e := range badEvents() {
			if got, why := expr.Eval(e, l); got != (api.Value{}) || why != api.ErrArg {
				t.Fatalf("Eval(%v, %v) = %v, %v", e, l, got, why)
			}
		}
		if _, why := expr.Kind(like(), l); why == api.ErrArg {
			t.Fatalf("Kind(%v) is ErrArg", l)
		}
		if _, why := expr.Eval(of(), l); why == api.ErrArg {
			t.Fatalf("Eval(%v) is ErrArg", l)
		}
	}
}

// P8.1, P8.2: twelve parts may be, thirteen may not.
func TestTwelveParts(t *testing.T) {
	l := parts(push(truth(0)))
	for n := 1; n <= 15; n++ {
		k, why := expr.Kind(like(), l)
		v, because := expr.Eval(of(), l)
		if n <= 12 && (k != api.Bool || why != api.OK || v != truth((n-1)%2) || because != api.OK) {
			t.Errorf("of %d parts: %v, %v, and %v, %v", n, k, why, v, because)
		}
		if n > 12 && (k != 0 || why != api.ErrArg || v != api.Value{} || because != api.ErrArg) {
			t.Errorf("of %d parts: %v, %v, and %v, %v", n, k, why, v, because)
		}
		l = append(l, do(api.Not))
	}
}

// P8.2: Eval, written out.
func TestEvalExamples(t *testing.T) {
	e := of(number(4), truth(1), text("ab"), moment(9), number(-3))
	most, least := push(number(math.MaxInt)), push(number(math.MinInt))
	for i, c := range []struct {
		l    []api.Op
		want api.Value
		why  api.Errno
	}{
		{parts(load(0), push(number(5)), do(api.Less)), truth(1), api.OK},
		{parts(load(0), push(number(4)), do(api.Less)), truth(0), api.OK},
		{parts(push(number(5)), load(0), do(api.Less)), truth(0), api.OK},
		{parts(load(0)), number(4), api.OK},
		{parts(load(1)), truth(1), api.OK},
		{parts(load(2)), text("ab"), api.OK},
		{parts(load(3)), moment(9), api.OK},
		{parts(load(4)), number(-3), api.OK},
		{parts(push(moment(1 << 50))), moment(1 << 50), api.OK},
		{parts(load(0), load(4), do(api.Plus)), number(1), api.OK},
		{parts(load(0), load(4), do(api.Minus)), number(7), api.OK}, // the left one less the other one
		{parts(load(4), load(0), do(api.Minus)), number(-7), api.OK},
		{parts(load(0), load(4), do(api.Times)), number(-12), api.OK},
		{parts(push(number(1)), load(0), load(4), do(api.Plus), do(api.Minus)), number(0), api.OK}, // the last two first
		{parts(push(number(1)), load(0), do(api.Plus), load(4), do(api.Minus)), number(8), api.OK},
		{parts(load(2), push(text("ab")), do(api.Same)), truth(1), api.OK},
		{parts(load(2), push(text("abc")), do(api.Less)), truth(1), api.OK},
		{parts(load(2), push(text("aa")), do(api.Less)), truth(0), api.OK},
		{parts(push(text("\x7f")), push(text("\x80")), do(api.Less)), truth(1), api.OK},
		{parts(load(3), push(moment(10)), do(api.Less)), truth(1), api.OK},
		{parts(load(3), push(moment(9)), do(api.Less)), truth(0), api.OK},
		{parts(load(3), push(moment(9)), do(api.Same)), truth(1), api.OK},
		{parts(load(0), load(4), do(api.Same)), truth(0), api.OK},
		{parts(load(1), push(truth(0)), do(api.Same)), truth(0), api.OK},
		{parts(push(truth(0)), push(truth(0)), do(api.Same)), truth(1), api.OK},
		{parts(load(1), do(api.Not)), truth(0), api.OK},
		{parts(load(1), do(api.Not), do(api.Not)), truth(1), api.OK},

		{parts(most, push(number(1)), do(api.Plus)), api.Value{}, api.ErrOver},
		{parts(most, push(number(0)), do(api.Plus)), number(math.MaxInt), api.OK},
		{parts(most, least, do(api.Plus)), number(-1), api.OK},
		{parts(least, push(number(-1)), do(api.Plus)), api.Value{}, api.ErrOver},
		{parts(least, least, do(api.Plus)), api.Value{}, api.ErrOver}, // it would go round to 0
		{parts(least, push(number(1)), do(api.Minus)), api.Value{}, api.ErrOver},
		{parts(push(number(0)), least, do(api.Minus)), api.Value{}, api.ErrOver},
		{parts(push(number(-1)), least, do(api.Minus)), number(math.MaxInt), api.OK},
		{parts(least, least, do(api.Minus)), number(0), api.OK},
		{parts(least, push(number(-1)), do(api.Times)), api.Value{}, api.ErrOver},
		{parts(push(number(-1)), least, do(api.Times)), api.Value{}, api.ErrOver},
		{parts(least, push(number(1)), do(api.Times)), number(math.MinInt), api.OK},
		{parts(push(number(1<<32)), push(number(1<<31)), do(api.Times)), api.Value{}, api.ErrOver}, // 2^63
		{parts(push(number(-1<<32)), push(number(1<<31)), do(api.Times)), number(math.MinInt), api.OK},
		{parts(push(number(1<<32)), push(number(1<<32)), do(api.Times)), api.Value{}, api.ErrOver}, // it would go round to 0
		{parts(least, push(number(0)), do(api.Times)), number(0), api.OK},
		{parts(most, push(number(1)), do(api.Plus), do(api.Not)), api.Value{}, api.ErrOver}, // the first one on the way
		{parts(most, push(number(1)), do(api.Plus), load(5)), api.Value{}, api.ErrOver},
		{parts(load(5), most, most, do(api.Plus)), api.Value{}, api.ErrNone},
		{parts(most, load(1), do(api.Plus)), api.Value{}, api.ErrType},

		{nil, api.Value{}, api.ErrForm},
		{parts(load(0), load(1)), api.Value{}, api.ErrForm},
		{parts(do(api.Or)), api.Value{}, api.ErrForm},
		{parts(load(2), do(api.Less)), api.Value{}, api.ErrForm},
		{parts(load(5)), api.Value{}, api.ErrNone},
		{parts(load(0), do(api.Not)), api.Value{}, api.ErrType},
		{parts(push(number(1)), load(1), do(api.Same)), api.Value{}, api.ErrType}, // 1 and 1, but of two kinds
		{parts(push(moment(4)), load(0), do(api.Same)), api.Value{}, api.ErrType},
		{parts(push(moment(4)), load(0), do(api.Less)), api.Value{}, api.ErrType},
		{parts(load(1), load(1), do(api.Less)), api.Value{}, api.ErrType},
		{parts(load(1), load(0), do(api.And)), api.Value{}, api.ErrType},
		{parts(load(0), load(1), do(api.Or)), api.Value{}, api.ErrType},
		{parts(load(6)), api.Value{}, api.ErrArg},
		{parts(load(0), do(10)), api.Value{}, api.ErrArg},
	} {
		if got, why := expr.Eval(e, c.l); got != c.want || why != c.why {
			t.Errorf("%d: Eval(%v) = %v, %v, want %v, %v", i, c.l, got, why, c.want, c.why)
		}
	}
}

// P8.2: And, Or and Not of all Bools.
func TestEvalOfBools(t *testing.T) {
	for a := range 2 {
		if got, why := expr.Eval(of(truth(a)), parts(load(0), do(api.Not))); got != truth(1-a) || why != api.OK {
			t.Errorf("not %d = %v, %v", a, got, why)
		}
		for b := range 2 {
			e := of(truth(a), truth(b))
			if got, why := expr.Eval(e, parts(load(0), load(1), do(api.And))); got != truth(a&b) || why != api.OK {
				t.Errorf("%d and %d = %v, %v", a, b, got, why)
			}
			if got, why := expr.Eval(e, parts(load(0), load(1), do(api.Or))); got != truth(a|b) || why != api.OK {
				t.Errorf("%d or %d = %v, %v", a, b, got, why)
			}
			if got, why := expr.Eval(e, parts(load(0), load(1), do(api.Same))); got != truth(1-(a^b)) || why != api.OK {
				t.Errorf("%d same %d = %v, %v", a, b, got, why)
			}
		}
	}
}

// P8.2: of any two Ints, the greatest and the least among them, what comes of both is just what it is, or ErrOver.
func TestEvalOfNumbers(t *testing.T) {
	over := 0
	for _, a := range edges() {
		for _, b := range edges() {
			for code := api.Plus; code <= api.Same; code++ {
				checkEval(t, of(number(a), number(b)), parts(load(0), load(1), do(code)))
				checkEval(t, of(), parts(push(number(a)), push(number(b)), do(code)))
				if _, why := expr.Eval(of(), parts(push(number(a)), push(number(b)), do(code))); why == api.ErrOver {
					over++
				}
			}
		}
	}
	if over == 0 {
		t.Error("no number was too great")
	}
}

// P8.2: of any two values, whatever their kinds.
func TestEvalOfTwo(t *testing.T) {
	for _, a := range goodValues() {
		for _, b := range goodValues() {
			for code := api.Plus; code < api.Codes; code++ {
				checkEval(t, of(a, b), parts(load(0), load(1), do(code)))
				checkEval(t, of(b), parts(push(a), load(0), do(code)))
			}
		}
	}
}

// P8.2: a Load finds just the values of the event, as they are, from 0 on.
func TestLoad(t *testing.T) {
	six := []api.Value{number(10), truth(1), text("two"), moment(3), number(-4), text("")}
	for n := range 7 {
		for at := range 6 {
			got, why := expr.Eval(of(six[:n]...), parts(load(at)))
			k, because := expr.Kind(schemaOf(of(six[:n]...)), parts(load(at)))
			if at < n && (got != six[at] || why != api.OK || k != six[at].Kind || because != api.OK) {
				t.Errorf("%d of %d: %v, %v, and %v, %v", at, n, got, why, k, because)
			}
			if at >= n && (got != api.Value{} || why != api.ErrNone || k != 0 || because != api.ErrNone) {
				t.Errorf("%d of %d: %v, %v, and %v, %v", at, n, got, why, k, because)
			}
		}
	}
	for _, v := range goodValues() {
		if got, why := expr.Eval(of(number(1), v), parts(load(1))); got != v || why != api.OK {
			t.Errorf("loaded %v, %v, want %v", got, why, v)
		}
		if got, why := expr.Eval(of(), parts(push(v))); got != v || why != api.OK {
			t.Errorf("pushed %v, %v, want %v", got, why, v)
		}
	}
}

// P8.2: an expression holds, if it comes to a Bool of 1; an empty one holds of all.
func TestHolds(t *testing.T) {
	for i, c := range []struct {
		e    api.Event
		l    []api.Op
		want bool
	}{
		{of(number(4)), parts(load(0), push(number(5)), do(api.Less)), true},
		{of(number(5)), parts(load(0), push(number(5)), do(api.Less)), false},
		{of(truth(1)), parts(load(0)), true},
		{of(truth(0)), parts(load(0)), false},
		{of(number(1)), parts(load(0)), false},
		{of(moment(1)), parts(load(0)), false},
		{of(text("1")), parts(load(0)), false},
		{of(text("\x01")), parts(load(0)), false},
		{of(), parts(load(0)), false}, // ErrNone
		{of(truth(1)), parts(load(0), load(0)), false},
		{of(truth(1)), parts(do(api.Not)), false},
		{of(number(0)), parts(load(0), do(api.Not)), false},
		{of(number(math.MaxInt)), parts(load(0), push(number(1)), do(api.Plus), load(0), do(api.Less)), false}, // ErrOver, though it would be less, gone round
		{of(), nil, true},
		{of(), []api.Op{}, true},
		{of(truth(0)), nil, true},
		{of(truth(2)), parts(load(0)), false}, // ErrArg
		{of(truth(2)), parts(push(truth(1))), false},
		{api.Event{Name: "a", At: -1}, parts(push(truth(1))), false},
		{of(truth(1)), slices.Repeat(parts(push(truth(1))), 13), false},
		{of(truth(1)), parts(push(truth(1)), do(10)), false},
	} {
		if got := expr.Holds(c.e, c.l); got != c.want {
			t.Errorf("%d: Holds(%v, %v) = %v", i, c.e, c.l, got)
		}
	}
	for _, e := range append(goodEvents(), badEvents()...) {
		if !expr.Holds(e, nil) || !expr.Holds(e, []api.Op{}) {
			t.Errorf("an empty one does not hold of %v", e)
		}
	}
}

// P8.1, P8.2, P8.4: all short expressions are what the document's words say.
func TestShort(t *testing.T) {
	events := []api.Event{of(), of(number(3)), of(truth(1), number(1), text("b")), of(number(math.MaxInt), truth(0), number(-1))}
	told := map[api.Errno]int{}
	eachShort(4, func(l []api.Op) {
		for _, e := range events {
			checkEval(t, e, l)
			checkKind(t, schemaOf(e), l)
			checkFits(t, e, l)
			_, why := expr.Eval(e, l)
			told[why]++
		}
	})
	for _, why := range []api.Errno{api.OK, api.ErrForm, api.ErrNone, api.ErrType, api.ErrOver} {
		if told[why] == 0 {
			t.Errorf("%v was never told", why)
		}
	}
}

// P8.1, P8.2, P8.4: so are those of any parts, of events of any values.
func TestAny(t *testing.T) {
	r := rand.New(rand.NewSource(8))
	for range 40000 {
		l, fields := someExpr(r), someFields(r)
		e := someEvent(r, fields)
		checkEval(t, e, l)
		checkKind(t, like(fields...), l)
		checkFits(t, e, l)
	}
	for _, l := range all() {
		for _, e := range append(goodEvents(), badEvents()...) {
			checkEval(t, e, l)
			checkKind(t, schemaOf(e), l)
		}
	}
}

// P8.4: what Kind accepts comes to that kind of each event that is valid, or is ErrOver.
func TestRight(t *testing.T) {
	r := rand.New(rand.NewSource(84))
	var came, over int
	for range 20000 {
		fields, k := someFields(r), r.Intn(4)
		l := rightExpr(r, k, 3, fields)
		s := like(fields...)
		if len(l) > 12 {
			checkKind(t, s, l)
			continue
		}
		if got, why := expr.Kind(s, l); got != k || why != api.OK {
			t.Fatalf("Kind(%v, %v) = %v, %v, want %v", s, l, got, why, k)
		}
		for range 4 {
			e := someEvent(r, fields)
			if why := event.Valid(s, e); why != api.OK {
				t.Fatalf("%v is %v by %v", e, why, s)
			}
			checkEval(t, e, l)
			switch v, why := expr.Eval(e, l); {
			case why == api.ErrOver:
				over++
			case why != api.OK || v.Kind != k:
				t.Fatalf("Eval(%v, %v) = %v, %v, want one of kind %v", e, l, v, why, k)
			default:
				came++
			}
		}
	}
	if came == 0 || over == 0 {
		t.Errorf("%d came to something, %d were too great", came, over)
	}
}

// P8.3: the bytes, written out.
func TestPutExamples(t *testing.T) {
	for i, c := range []struct {
		l    []api.Op
		want string
	}{
		{nil, "\x00"},
		{[]api.Op{}, "\x00"},
		{parts(load(0), push(number(5)), do(api.Less)), "\x03\x01\x00\x00\x00\x0a\x05"},
		{parts(load(5)), "\x01\x01\x05"},
		{parts(push(number(-1))), "\x01\x00\x00\x01"},
		{parts(push(truth(1)), do(api.Not)), "\x02\x00\x01\x01\x09"},
		{parts(push(text("ab"))), "\x01\x00\x02\x02ab"},
		{parts(push(moment(300))), "\x01\x00\x03\xac\x02"},
		{parts(do(2), do(3), do(4), do(5), do(6), do(7), do(8), do(9)), "\x08\x02\x03\x04\x05\x06\x07\x08\x09"},
		{slices.Repeat(parts(do(api.And)), 12), "\x0c" + strings.Repeat("\x07", 12)},
		{slices.Repeat(parts(push(text(strings.Repeat("z", 40)))), 12), "\x0c" + strings.Repeat("\x00\x02\x28"+strings.Repeat("z", 40), 12)},
	} {
		if got, is := expr.Put(c.l); string(got) != c.want || !is {
			t.Errorf("%d: Put(%v) = %v, %v, want %v", i, c.l, got, is, []byte(c.want))
		}
		if l, n, is := expr.Get([]byte(c.want)); !same(l, c.l) || n != len(c.want) || !is {
			t.Errorf("%d: Get(%v) = %v, %d, %v, want %v", i, []byte(c.want), l, n, is, c.l)
		}
	}
}

// P8.3: Put is what the document's words say: nothing and false of what may not be.
func TestPut(t *testing.T) {
	for _, l := range good() {
		if _, is := expr.Put(l); !is {
			t.Errorf("Put(%v) is false", l)
		}
		checkPut(t, l)
	}
	for _, l := range bad() {
		if b, is := expr.Put(l); len(b) != 0 || is {
			t.Errorf("Put(%v) = %v, %v", l, b, is)
		}
		checkPut(t, l)
	}
	r := rand.New(rand.NewSource(83))
	for range 20000 {
		checkPut(t, someExpr(r))
	}
}

func checkPut(t *testing.T, l []api.Op) {
	t.Helper()
	got, is := expr.Put(l)
	want, may := put(l)
	if is != may || !bytes.Equal(got, want) {
		t.Fatalf("Put(%v) = %v, %v, want %v, %v", l, got, is, want, may)
	}
}

func isNone(l []api.Op, n int, is bool) bool {
	return len(l) == 0 && n == 0 && !is
}

// P8.3, P8.4: what is put is got, alone and whatever stands behind it; no shorter piece of it is one.
func TestGetOfPut(t *testing.T) {
	for _, l := range good() {
		b, _ := expr.Put(l)
		for _, tail := range [][]byte{nil, {0}, {1}, {9}, {128}, {255}, b, bytes.Repeat([]byte{255}, 20), bytes.Repeat([]byte{0}, 20)} {
			long := slices.Concat(b, tail)
			if got, n, is := expr.Get(long); !is || !same(got, l) || n != len(b) {
				t.Errorf("Get(%v) = %v, %d, %v, want %v, %d", long, got, n, is, l, len(b))
			}
		}
		for i := range b {
			if got, n, is := expr.Get(b[:i]); !isNone(got, n, is) {
				t.Errorf("Get(%v) = %v, %d, %v, want nothing", b[:i], got, n, is)
			}
		}
	}
}

// P8.3: bytes by which no expression that may be is put are none: nothing, 0 and false.
func TestGetNone(t *testing.T) {
	for _, b := range [][]byte{
		nil,
		{},
		{1},
		{128},
		{128, 0}, // nought has fewer groups
		{129, 0, 9},
		{13},
		append([]byte{13}, bytes.Repeat([]byte{9}, 13)...),
		append([]byte{128, 1}, bytes.Repeat([]byte{9}, 128)...),
		append([]byte{129, 2}, bytes.Repeat([]byte{9}, 300)...),
		append([]byte{255, 255, 255, 255, 255, 255, 255, 255, 255, 1}, bytes.Repeat([]byte{9}, 30)...),
		append([]byte{129, 128, 128, 128, 16}, bytes.Repeat([]byte{9}, 30)...), // 2^32 + 1
		append([]byte{128, 128, 128, 128, 128, 128, 128, 128, 128, 1}, 9, 9),   // 2^63
		append([]byte{12}, bytes.Repeat([]byte{9}, 11)...),
		{1, 10},
		{1, 11},
		{1, 128},
		{1, 137}, // 9, and a bit more
		{1, 255},
		{2, 9, 10},
		{2, 10, 9},
		{1, 1}, // a Load of nothing
		{1, 1, 6},
		{1, 1, 128},
		{1, 1, 128, 0},
		{1, 1, 133, 0},
		{1, 1, 255},
		{2, 1, 0, 1},
		{2, 1, 6, 9},
		{1, 0}, // a Push of nothing
		{1, 0, 0},
		{1, 0, 4, 0},
		{1, 0, 1, 2},
		{1, 0, 2, 3, 'a', 'b'},
		append([]byte{1, 0, 2, 41}, bytes.Repeat([]byte{'x'}, 60)...),
		{1, 0, 3, 129, 128, 128, 128, 128, 128, 128, 2}, // 2^50 + 1
		{1, 0, 0, 128, 0},
		{2, 0, 0, 1},
		{2, 0, 0, 0, 0, 0},
	} {
		if l, n, is := expr.Get(b); !isNone(l, n, is) {
			t.Errorf("Get(%v) = %v, %d, %v, want nothing", b, l, n, is)
		}
		checkGet(t, b)
	}
}

// checkGet holds Get against the document's words: what is got is put as just these bytes, and what is not got is put as no beginning.
func checkGet(t *testing.T, b []byte) {
	t.Helper()
	before := bytes.Clone(b)
	l, n, is := expr.Get(b)
	want, m, there := get(before)
	if !same(l, want) || n != m || is != there {
		t.Fatalf("Get(%v) = %v, %d, %v, want %v, %d, %v", before, l, n, is, want, m, there)
	}
	if !bytes.Equal(b, before) {
		t.Fatalf("Get(%v) changed them to %v", before, b)
	}
	if !is {
		return
	}
	if p, may := put(l); !may || !bytes.Equal(p, before[:n]) {
		t.Fatalf("Get(%v) = %v, of which Put is %v, %v", before, l, p, may)
	}
}

// P8.3: Get is what the document's words say, of many bytes that look like an expression's.
func TestGet(t *testing.T) {
	signs := []byte{0, 1, 2, 3, 5, 6, 9, 10, 128}
	var grow func(b []byte, more int)
	grow = func(b []byte, more int) {
		checkGet(t, b)
		if more == 0 {
			return
		}
		for _, x := range signs {
			grow(append(b[:len(b):len(b)], x), more-1)
		}
	}
	grow(nil, 5)
	for _, head := range []string{"\x03\x01\x00\x00\x02\x02ab", "\x02\x00\x03\x80", "\x0c\x02\x03\x04\x05\x06\x07\x08\x09\x01\x05"} {
		grow([]byte(head), 4)
	}
	r := rand.New(rand.NewSource(82))
	for range 50000 {
		b := make([]byte, r.Intn(40))
		for i := range b {
			b[i] = "\x00\x00\x00\x01\x01\x02\x03\x04\x05\x06\x07\x08\x09\x0a\x0c\x0dab\x28\x29\x80\x81\xff"[r.Intn(23)]
		}
		checkGet(t, b)
	}
}

// P8.3: one byte more, less, or other than Put's is got by the document's words too.
func TestGetOfAlmostPut(t *testing.T) {
	for _, l := range good() {
		b, _ := expr.Put(l)
		for i := range b {
			for bit := range 8 {
				c := bytes.Clone(b)
				c[i] ^= 1 << bit
				checkGet(t, c)
			}
			checkGet(t, slices.Delete(bytes.Clone(b), i, i+1))
			for _, x := range []byte{0, 1, 2, 9, 128} {
				checkGet(t, slices.Insert(bytes.Clone(b), i, x))
			}
		}
	}
}

// P8.4: two that are not the same are put unlike, and neither one's bytes are a beginning of the other one's.
func TestPutApart(t *testing.T) {
	for i, a := range good() {
		p, _ := expr.Put(a)
		for j, b := range good() {
			q, _ := expr.Put(b)
			if like := bytes.HasPrefix(p, q); like != same(a, b) {
				t.Errorf("%d and %d: %v of %v, %v of %v", i, j, p, a, q, b)
			}
		}
	}
}

// P8.3: Same holds all parts against each other, whether they may be or not; in order, none or an empty list.
func TestSame(t *testing.T) {
	l := all()
	for i, a := range l {
		for j, b := range l {
			if got, want := expr.Same(a, slices.Clone(b)), same(a, b); got != want || i == j && !got {
				t.Fatalf("Same(%v, %v) = %v, want %v", a, b, got, want)
			}
		}
	}
}

// P8.3: Same where just one thing differs, or parts stand in another order, or one has some more.
func TestSameOfAlmostTheSame(t *testing.T) {
	a := parts(load(0), push(number(5)), do(api.Less), load(1), do(api.Not), push(text("x")))
	for i := range a {
		for _, change := range []func(op *api.Op){
			func(op *api.Op) { op.Code++ },
			func(op *api.Op) { op.Arg++ },
			func(op *api.Op) { op.V.Kind++ },
			func(op *api.Op) { op.V.N++ },
			func(op *api.Op) { op.V.S += "y" },
		} {
			b := slices.Clone(a)
			change(&b[i])
			if expr.Same(a, b) || expr.Same(b, a) {
				t.Errorf("Same(%v, %v) = true", a, b)
			}
		}
		turned, less, more := slices.Clone(a), slices.Delete(slices.Clone(a), i, i+1), slices.Insert(slices.Clone(a), i, do(api.Or))
		turned[i], turned[(i+1)%6] = turned[(i+1)%6], turned[i]
		for _, b := range [][]api.Op{turned, less, more, a[:i]} {
			if expr.Same(a, b) || expr.Same(b, a) {
				t.Errorf("Same(%v, %v) = true", a, b)
			}
		}
	}
	if !expr.Same(a, slices.Clone(a)) || !expr.Same(nil, []api.Op{}) || !expr.Same([]api.Op{}, nil) || !expr.Same(nil, nil) {
		t.Error("two that are the same are not")
	}
}

// R3: what is handed in stays as it was, also what stands behind it.
func TestArgumentsStayAsTheyWere(t *testing.T) {
	for _, like := range all() {
		room := append(slices.Clone(like), push(number(7)), do(api.Not))
		was := slices.Clone(room)
		l := room[:len(like)]
		for _, e := range goodEvents() {
			values := append(slices.Clone(e.V), number(7), truth(1))
			ofValues := slices.Clone(values)
			s := schemaOf(of(values...))
			fields := slices.Clone(s.F)
			e.V = values[:len(e.V)]
			s.F = s.F[:len(e.V)]
			expr.Kind(s, l)
			expr.Eval(e, l)
			expr.Holds(e, l)
			expr.Put(l)
			expr.Same(l, l)
			if !slices.Equal(room, was) || !slices.Equal(values, ofValues) || !slices.Equal(s.F[:cap(s.F)][:len(fields)], fields) {
				t.Fatalf("%v became %v, %v became %v", was, room, ofValues, values)
			}
		}
	}
}

// R3: what is answered is the caller's own, and does not hang on what was handed in.
func TestAnswersAreOwn(t *testing.T) {
	for _, l := range good() {
		b, _ := expr.Put(l)
		kept := bytes.Clone(b)
		got, _, _ := expr.Get(b)
		other, _, _ := expr.Get(b)
		spoil(b)
		clear(other[:cap(other)])
		if !same(got, l) {
			t.Errorf("%v became %v", l, got)
		}
		if again, _ := expr.Put(l); !bytes.Equal(again, kept) {
			t.Errorf("Put(%v) = %v, when an earlier answer was changed", l, again)
		}
	}
}

// spoil changes all bytes of a list, and all that it has room for.
func spoil(b []byte) {
	b = b[:cap(b)]
	for i := range b {
		b[i] ^= 85
	}
}

// R5: what was asked before changes nothing.
func TestNothingKept(t *testing.T) {
	e := of(number(-5), truth(1), text("news"), moment(9), number(5), truth(0))
	for range 3 {
		for _, l := range all() {
			checkEval(t, e, l)
			checkKind(t, schemaOf(e), l)
			checkPut(t, l)
			b, _ := expr.Put(l)
			checkGet(t, b)
		}
	}
}

// R1: many parts, long values and many bytes, of which few are taken.
func TestLongArguments(t *testing.T) {
	many := slices.Repeat(parts(do(api.Not)), 1<<18)
	long := parts(push(text(strings.Repeat("a", 1<<20))))
	wide := like(make([]int, 1<<10)...)
	for _, l := range [][]api.Op{many, long} {
		checkEval(t, of(truth(1)), l)
		checkKind(t, like(1), l)
		checkPut(t, l)
		if !expr.Same(l, slices.Clone(l)) || expr.Same(l, l[1:]) {
			t.Error("long ones are told wrongly")
		}
	}
	checkEval(t, of(make([]api.Value, 1<<18)...), parts(load(0)))
	checkKind(t, wide, parts(load(0)))
	b, _ := expr.Put(parts(load(0), push(number(5)), do(api.Less)))
	checkGet(t, slices.Concat(b, make([]byte, 1<<20)))
	checkGet(t, bytes.Repeat([]byte{12}, 1<<20))
	checkGet(t, bytes.Repeat([]byte{255}, 1<<20))
}
