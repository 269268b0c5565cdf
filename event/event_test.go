package event_test

import (
	"bytes"
	"encoding/binary"
	"math"
	"math/rand"
	"slices"
	"strings"
	"testing"

	"towncrier/api"
	"towncrier/event"
	"towncrier/schema"
	"towncrier/value"
)

func number(n int) api.Value  { return api.Value{Kind: api.Int, N: n} }
func truth(n int) api.Value   { return api.Value{Kind: api.Bool, N: n} }
func text(s string) api.Value { return api.Value{Kind: api.Bytes, S: s} }
func moment(n int) api.Value  { return api.Value{Kind: api.Time, N: n} }

// of is an event of these values.
func of(name string, at int, l ...api.Value) api.Event {
	return api.Event{Name: name, At: at, V: l}
}

// like is a schema of fields that are called f0, f1 and so on, of these kinds.
func like(name string, kinds ...int) api.Schema {
	s := api.Schema{Name: name, Ver: 1}
	for i, kind := range kinds {
		s.F = append(s.F, api.Field{Name: "f" + string(rune('0'+i)), Kind: kind})
	}
	return s
}

// schemaOf is a schema by which an event is valid, if both may be.
func schemaOf(e api.Event) api.Schema {
	var kinds []int
	for _, v := range e.V {
		kinds = append(kinds, v.Kind)
	}
	return like(e.Name, kinds...)
}

// clone is an event that shares no value with the one it is like.
func clone(e api.Event) api.Event {
	e.V = slices.Clone(e.V)
	return e
}

// may is May by the document's words.
func may(e api.Event) bool {
	wrong := 0
	for _, v := range e.V {
		if !value.May(v) {
			wrong++
		}
	}
	return schema.Name(e.Name) && 0 <= e.At && e.At <= 1<<50 && len(e.V) <= 6 && wrong == 0
}

// same is Same by the document's words.
func same(a, b api.Event) bool {
	if a.Name != b.Name || a.At != b.At || len(a.V) != len(b.V) {
		return false
	}
	for i := range a.V {
		if a.V[i].Kind != b.V[i].Kind || a.V[i].N != b.V[i].N || a.V[i].S != b.V[i].S {
			return false
		}
	}
	return true
}

// valid is Valid by the document's words.
func valid(s api.Schema, e api.Event) api.Errno {
	if !schema.May(s) || !may(e) {
		return 1
	}
	if s.Name != e.Name {
		return 3
	}
	if len(e.V) != len(s.F) {
		return 5
	}
	for i := range s.F {
		if s.F[i].Kind != e.V[i].Kind {
			return 5
		}
	}
	return 0
}

// put is Put by the document's words.
func put(e api.Event) ([]byte, bool) {
	if !may(e) {
		return nil, false
	}
	b := binary.AppendUvarint(nil, uint64(len(e.Name)))
	b = append(b, e.Name...)
	b = binary.AppendUvarint(b, uint64(e.At))
	b = binary.AppendUvarint(b, uint64(len(e.V)))
	for _, v := range e.V {
		p, _ := value.Put(v)
		b = append(b, p...)
	}
	return b, true
}

// get is Get by the document's words: what bytes might tell, if they begin by what is put of that.
func get(b []byte) (api.Event, int, bool) {
	e := guess(b)
	if p, is := put(e); is && bytes.HasPrefix(b, p) {
		return e, len(p), true
	}
	return api.Event{}, 0, false
}

// guess is the one event that bytes might tell; it stops where they end, or no value is there.
func guess(b []byte) api.Event {
	take := func() uint64 {
		n, used := binary.Uvarint(b)
		b = b[max(used, 0):]
		return n
	}
	size := min(take(), uint64(len(b)))
	e := api.Event{Name: string(b[:size])}
	b = b[size:]
	e.At = int(take())
	for range min(take(), 9) {
		v, used, is := value.Get(b)
		if !is {
			break
		}
		b = b[used:]
		e.V = append(e.V, v)
	}
	return e
}

// goodValues are values that may be, of each kind, the edges among them.
func goodValues() []api.Value {
	return []api.Value{
		number(0), number(1), number(-1), number(63), number(64), number(-65), number(300), number(math.MaxInt), number(math.MinInt),
		truth(0), truth(1),
		text(""), text("\x00"), text("a"), text("ab"), text("\xff\x80"), text("é"), text(strings.Repeat("x", 39)), text(strings.Repeat("y", 40)),
		moment(0), moment(1), moment(127), moment(128), moment(1 << 50),
	}
}

// badValues are values that may not be.
func badValues() []api.Value {
	return []api.Value{
		truth(2), truth(-1), truth(256), moment(-1), moment(1<<50 + 1), moment(math.MaxInt), moment(math.MinInt),
		text(strings.Repeat("x", 41)), text(strings.Repeat("x", 1000)),
		{Kind: api.Int, S: "a"}, {Kind: api.Bool, N: 1, S: "\x00"}, {Kind: api.Time, S: "a"}, {Kind: api.Bytes, N: 1}, {Kind: api.Bytes, N: -1, S: "a"},
		{Kind: 4}, {Kind: -1}, {Kind: 256}, {Kind: 1 << 32}, {Kind: math.MaxInt}, {Kind: math.MinInt, S: "a"},
	}
}

// good are events that may be, the edges among them.
func good() []api.Event {
	l := []api.Event{
		of("a", 0),
		{Name: "a", V: []api.Value{}},
		of("b", 0),
		of("z9_", 5),
		of("abcdefghijkl", 1<<50),
		of("a___________", 1),
		of("full", 1<<50, slices.Repeat([]api.Value{text(strings.Repeat("z", 40))}, 6)...),
		of("all", 7, number(-5), truth(1), text("news"), moment(9), number(5), truth(0)),
		of("all", 7, truth(1), number(-5), text("news"), moment(9), number(5), truth(0)),
	}
	for _, at := range []int{0, 1, 2, 126, 127, 128, 129, 255, 256, 300, 16383, 16384, 1<<32 - 1, 1 << 32, 1<<49 + 1, 1<<50 - 1, 1 << 50} {
		l = append(l, of("v", at), of("v", at, number(at)), of("v", at, moment(at), truth(0)))
	}
	for _, v := range goodValues() {
		for n := 1; n <= 6; n++ {
			l = append(l, of("some", 3, slices.Repeat([]api.Value{v}, n)...))
		}
	}
	return l
}

// badNames are texts that are no names.
func badNames() []string {
	return []string{
		"", "A", "aB", "0", "9a", "_", "_a", "a-b", "a b", " a", "a ", "a\x00", "\x00", "a\n", "`", "a{",
		"abcdefghijklm", strings.Repeat("a", 24), strings.Repeat("a", 256), strings.Repeat("a", 257),
		"é", "aé", "š", "а", "a٠", "\xff", "a\xff", "a\x80", "a\ufffd",
	}
}

// badTimes are times at which nothing is.
func badTimes() []int {
	return []int{-1, -2, 1<<50 + 1, 1 << 51, 1<<50 + 1<<32, -1 << 50, math.MaxInt, math.MinInt, math.MinInt + 1}
}

// badEvents are events that may not be.
func badEvents() []api.Event {
	l := []api.Event{
		{},
		{At: 1},
		of("seven", 1, make([]api.Value, 7)...),
		of("eight", 1, make([]api.Value, 8)...),
		of("many", 1, make([]api.Value, 256)...),
		of("many", 1, make([]api.Value, 1000)...),
	}
	for _, name := range badNames() {
		l = append(l, of(name, 0), of(name, 1, number(0), truth(1)))
	}
	for _, at := range badTimes() {
		l = append(l, of("a", at), of("a", at, number(0)))
	}
	for _, v := range badValues() {
		for i := range 6 {
			six := of("a", 1, number(0), truth(1), text("x"), moment(2), number(3), truth(0))
			six.V[i] = v
			l = append(l, six, of("a", 1, six.V[:i+1]...))
		}
	}
	return l
}

func all() []api.Event {
	return append(good(), badEvents()...)
}

func isNone(e api.Event, n int, is bool) bool {
	return e.Name == "" && e.At == 0 && len(e.V) == 0 && n == 0 && !is
}

// P6.1: an event may be, if its name, its time, its values and their number are all right.
func TestMay(t *testing.T) {
	for _, e := range good() {
		if !event.May(e) {
			t.Errorf("May(%v) = false", e)
		}
	}
	for _, e := range badEvents() {
		if event.May(e) {
			t.Errorf("May(%v) = true", e)
		}
	}
}

// P6.1: how many values there are at most, of each kind.
func TestMayOfEachSize(t *testing.T) {
	for _, v := range goodValues() {
		for n := range 20 {
			e := of("a", 1, slices.Repeat([]api.Value{v}, n)...)
			if got, want := event.May(e), n <= 6; got != want {
				t.Errorf("May(%v) = %v, want %v", e, got, want)
			}
		}
	}
}

// P6.1: Same holds all parts against each other, whether they may be or not; values in order, none or an empty list.
func TestSame(t *testing.T) {
	for i, a := range all() {
		for j, b := range all() {
			if got, want := event.Same(a, clone(b)), same(a, b); got != want || i == j && !got {
				t.Fatalf("Same(%v, %v) = %v, want %v", a, b, got, want)
			}
		}
	}
}

// P6.1: Same where just one part differs, or values stand in another order, or one has some more.
func TestSameOfAlmostTheSame(t *testing.T) {
	a := of("a", 5, number(1), truth(1), text("x"), moment(2), number(3), truth(0))
	for i := range a.V {
		kind, count, sign, less, turned := clone(a), clone(a), clone(a), clone(a), clone(a)
		kind.V[i].Kind++
		count.V[i].N++
		sign.V[i].S += "y"
		less.V = slices.Delete(less.V, i, i+1)
		turned.V[i], turned.V[(i+1)%6] = turned.V[(i+1)%6], turned.V[i]
		for _, b := range []api.Event{kind, count, sign, less, turned, of("a", 5, a.V[:i]...), of("b", 5, a.V...), of("a", 6, a.V...)} {
			if event.Same(a, b) || event.Same(b, a) {
				t.Errorf("Same(%v, %v) = true", a, b)
			}
		}
	}
	if !event.Same(a, clone(a)) || !event.Same(api.Event{}, api.Event{V: []api.Value{}}) {
		t.Error("two that are the same are not")
	}
}

// P6.1: Valid, written out: of several errors the one that is named first.
func TestValidExamples(t *testing.T) {
	trade := like("trade", api.Int, api.Bytes)
	twice := like("trade", api.Int, api.Bytes)
	twice.F[1].Name = twice.F[0].Name
	later := trade
	later.Ver = 1000
	for i, c := range []struct {
		s    api.Schema
		e    api.Event
		want api.Errno
	}{
		{like("a"), of("a", 0), api.OK},
		{like("a"), api.Event{Name: "a", At: 1 << 50, V: []api.Value{}}, api.OK},
		{api.Schema{Name: "a", Ver: 1, F: []api.Field{}}, of("a", 5), api.OK},
		{trade, of("trade", 5, number(-1), text("")), api.OK},
		{later, of("trade", 5, number(math.MinInt), text(strings.Repeat("x", 40))), api.OK},
		{like("a", 0, 1, 2, 3, 1, 0), of("a", 1, number(1), truth(1), text("x"), moment(1), truth(0), number(2)), api.OK},

		{trade, of("trade", 5), api.ErrType}, // too few values
		{trade, of("trade", 5, number(1)), api.ErrType},
		{trade, of("trade", 5, number(1), text("x"), number(1)), api.ErrType}, // too many
		{like("a"), of("a", 5, number(0)), api.ErrType},
		{like("a", 0), of("a", 5), api.ErrType},
		{trade, of("trade", 5, text("x"), number(1)), api.ErrType}, // another order
		{trade, of("trade", 5, number(1), number(1)), api.ErrType}, // another kind, at the end
		{trade, of("trade", 5, moment(1), text("x")), api.ErrType}, // and first
		{like("a", 0), of("a", 5, truth(1)), api.ErrType},
		{like("a", 0), of("a", 5, moment(0)), api.ErrType}, // a Time is no Int
		{like("a", 3), of("a", 5, number(0)), api.ErrType},
		{like("a", 1), of("a", 5, number(1)), api.ErrType},
		{like("a", 2), of("a", 5, number(0)), api.ErrType},

		{like("a"), of("b", 5), api.ErrNone},
		{like("a"), of("ab", 5), api.ErrNone},
		{like("ab"), of("a", 5), api.ErrNone},
		{trade, of("trades", 5, number(1), text("x")), api.ErrNone},
		{trade, of("other", 5, truth(1)), api.ErrNone}, // ahead of ErrType
		{trade, of("other", 5, text("x"), number(1)), api.ErrNone},

		{api.Schema{}, api.Event{}, api.ErrArg},
		{api.Schema{}, of("a", 5), api.ErrArg},
		{like("a"), api.Event{}, api.ErrArg},
		{api.Schema{Name: "a"}, of("a", 5), api.ErrArg}, // version 0
		{api.Schema{Name: "a", Ver: 1001}, of("a", 5), api.ErrArg},
		{api.Schema{Name: "a"}, of("b", 5), api.ErrArg}, // ahead of ErrNone
		{api.Schema{Name: "a"}, of("a", 5, number(1)), api.ErrArg},
		{twice, of("trade", 5, number(1), text("x")), api.ErrArg}, // two fields of one name
		{like("A"), of("A", 5), api.ErrArg},
		{like(""), of("", 5), api.ErrArg},
		{like("a", 4), of("a", 5, api.Value{Kind: 4}), api.ErrArg}, // a kind that is none
		{like("a", -1), of("a", 5, api.Value{Kind: -1}), api.ErrArg},
		{like("a", 0, 0, 0, 0, 0, 0, 0), of("a", 5, make([]api.Value, 7)...), api.ErrArg},
		{like("a"), of("a", -1), api.ErrArg},
		{like("a"), of("a", 1<<50+1), api.ErrArg},
		{like("a"), of("b", -1), api.ErrArg},
		{like("a", 1), of("a", 5, truth(2)), api.ErrArg},
		{like("a", 0), of("a", 5, truth(2)), api.ErrArg}, // ahead of ErrType
		{like("a", 0, 0), of("a", 5, truth(2)), api.ErrArg},
		{like("a", 2), of("b", 5, text(strings.Repeat("x", 41))), api.ErrArg},
		{like("a", 0, 0, 0, 0, 0, 0), of("a", 5, make([]api.Value, 7)...), api.ErrArg},
	} {
		if got := event.Valid(c.s, c.e); got != c.want {
			t.Errorf("%d: Valid(%v, %v) = %v, want %v", i, c.s, c.e, got, c.want)
		}
	}
}

// P6.1: Valid is what the document's words say, of each event and its own schema, of those that differ by a kind or have fewer fields, and of many others.
func TestValid(t *testing.T) {
	r := rand.New(rand.NewSource(61))
	schemas := []api.Schema{{}, like("a"), like("some", 0), like("some", 1), like("some", 2), like("some", 3), like("all", 0, 1, 2, 3, 0, 1), like("v", 3, 1), like("v", 0), like("A"), like("v", 4)}
	for range 2000 {
		schemas = append(schemas, schemaOf(someEvent(r)))
	}
	for _, e := range all() {
		own := schemaOf(e)
		checkValid(t, own, e)
		for i := range own.F {
			other := schemaOf(e)
			other.F[i].Kind = (other.F[i].Kind + 1) % api.Kinds
			checkValid(t, other, e)
			other.F = own.F[:i]
			checkValid(t, other, e)
		}
		for _, s := range schemas {
			checkValid(t, s, e)
			s.Name = e.Name
			checkValid(t, s, e)
		}
	}
}

func checkValid(t *testing.T, s api.Schema, e api.Event) {
	t.Helper()
	if got, want := event.Valid(s, e), valid(s, e); got != want {
		t.Fatalf("Valid(%v, %v) = %v, want %v", s, e, got, want)
	}
}

// P6.2: the document's example, and some more, written out.
func TestPutExamples(t *testing.T) {
	for _, c := range []struct {
		e    api.Event
		want []byte
	}{
		{of("a", 5), []byte{1, 97, 5, 0}},
		{api.Event{Name: "a", At: 5, V: []api.Value{}}, []byte{1, 97, 5, 0}},
		{of("a", 0), []byte{1, 97, 0, 0}},
		{of("ab", 127), []byte{2, 97, 98, 127, 0}},
		{of("a", 128), []byte{1, 97, 128, 1, 0}},
		{of("a", 300), []byte{1, 97, 172, 2, 0}},
		{of("a", 1<<50), []byte{1, 97, 128, 128, 128, 128, 128, 128, 128, 2, 0}},
		{of("a", 1, number(-1)), []byte{1, 97, 1, 1, 0, 1}},
		{of("a", 1, number(0), truth(1), text("hi"), moment(300)), []byte{1, 97, 1, 4, 0, 0, 1, 1, 2, 2, 'h', 'i', 3, 172, 2}},
		{of("abcdefghijkl", 2, text(""), text("\x00\xff")), []byte("\x0cabcdefghijkl\x02\x02\x02\x00\x02\x02\x00\xff")},
		{of("a", 3, truth(0), truth(1), truth(0), truth(1), truth(0), truth(1)), []byte{1, 97, 3, 6, 1, 0, 1, 1, 1, 0, 1, 1, 1, 0, 1, 1}},
	} {
		if got, is := event.Put(c.e); !is || !bytes.Equal(got, c.want) {
			t.Errorf("Put(%v) = %v, %v, want %v", c.e, got, is, c.want)
		}
	}
}

// P6.2: Put is what the document's words say, of all that may be, and nothing and false of all else.
func TestPut(t *testing.T) {
	for _, e := range all() {
		checkPut(t, e)
	}
	r := rand.New(rand.NewSource(6))
	for range 20000 {
		checkPut(t, someEvent(r))
	}
}

func checkPut(t *testing.T, e api.Event) {
	t.Helper()
	got, is := event.Put(e)
	want, may := put(e)
	if is != may || !bytes.Equal(got, want) {
		t.Fatalf("Put(%v) = %v, %v, want %v, %v", e, got, is, want, may)
	}
}

// someEvent is one that mostly may be, but not always.
func someEvent(r *rand.Rand) api.Event {
	names, times, values := badNames(), badTimes(), goodValues()
	e := of("town_crier_1"[:1+r.Intn(12)], r.Intn(1<<50)>>r.Intn(50))
	if r.Intn(20) == 0 {
		e.Name = names[r.Intn(len(names))]
	}
	if r.Intn(20) == 0 {
		e.At = times[r.Intn(len(times))]
	}
	if r.Intn(20) == 0 {
		values = append(values, badValues()...)
	}
	for range r.Intn(7) + r.Intn(20)/19 {
		e.V = append(e.V, values[r.Intn(len(values))])
	}
	return e
}

// P6.2, P6.3: what is put is got, alone and whatever stands behind it; no shorter piece of it is one.
func TestGetOfPut(t *testing.T) {
	for _, e := range good() {
		b, _ := event.Put(e)
		for _, tail := range [][]byte{nil, {0}, {1}, {127}, {128}, {255}, b, bytes.Repeat([]byte{255}, 99), make([]byte, 99)} {
			long := slices.Concat(b, tail)
			if got, n, is := event.Get(long); !is || n != len(b) || !same(got, e) {
				t.Errorf("Get(%v) = %v, %d, %v, want %v, %d", long, got, n, is, e, len(b))
			}
		}
		for i := range b {
			if got, n, is := event.Get(b[:i]); !isNone(got, n, is) {
				t.Errorf("Get(%v) = %v, %d, %v, want noughts", b[:i], got, n, is)
			}
		}
	}
}

// P6.2: bytes by which no event that may be is put are none: noughts and false.
func TestGetNone(t *testing.T) {
	most := strings.Repeat("\xff", 9) + "\x01" // 2^64 - 1
	wrap := "\x81" + strings.Repeat("\x80", 8) + "\x01"
	for _, b := range []string{
		"",
		"\x00",
		"\x00\x05\x00",              // a name of nothing
		"\x01a",                     // nothing behind the name
		"\x01a\x05",                 // no number of values
		"\x02a",                     // too few bytes of a name
		"\x01A\x05\x00",             // no name
		"\x020a\x05\x00",            // so here
		"\x02a\xff\x05\x00",         // and here
		"\x0dabcdefghijklm\x05\x00", // a name of 13
		"\x0d",                      // of 13, and none there
		"\x81\x00a\x05\x00",         // the same number has fewer groups
		"\x01a\x85\x00\x00",         // so has the time
		"\x01a\x05\x80\x00",         // so has the number of values
		"\x01a\x05\x01\x00\x80\x00", // and a value's own
		"\x80",                      // more is told, and none comes
		"\x01a\x80",                 // so here
		"\x01a\x05\x80",             // and here
		"\x01a\x81\x80\x80\x80\x80\x80\x80\x02\x00",     // a time of 2^50 + 1
		"\x01a\x80\x80\x80\x80\x80\x80\x80\x04\x00",     // 2^51
		"\x01a" + wrap + "\x00",                         // 2^63 + 1
		"\x01a" + most + "\x00",                         // 2^64 - 1
		"\x01a\xff\xff\xff\xff\xff\xff\xff\xff\x7f\x00", // 2^63 - 1
		most + "a\x05\x00",                              // so many bytes of a name
		wrap + "a\x05\x00",                              // 2^63 + 1 of them
		"\x81\x80\x80\x80\x10a\x05\x00",                 // 2^32 + 1 of them
		"\x81\x02a\x05\x00",                             // 257 of them
		"\x01a\x05" + most,                              // so many values
		"\x01a\x05\x80\x02",                             // 256 of them
		"\x01a\x05" + wrap + "\x00\x00",                 // 2^63 + 1 of them
		"\x01a\x05\x81\x80\x80\x80\x10\x00\x00",         // 2^32 + 1 of them
		"\x01a\x05\x01",                                 // no value
		"\x01a\x05\x01\x00",                             // a kind alone
		"\x01a\x05\x01\x04\x00",                         // a kind that is none
		"\x01a\x05\x01\xff\x00",                         // so here
		"\x01a\x05\x01\x01\x02",                         // a Bool of 2
		"\x01a\x05\x01\x02\x01",                         // too few bytes
		"\x01a\x05\x01\x02\x29" + strings.Repeat("x", 41),
		"\x01a\x05\x01\x03\x81\x80\x80\x80\x80\x80\x80\x02", // a Time of 2^50 + 1
		"\x01a\x05\x02\x00\x00",                             // one value of two
		"\x01a\x05\x02\x00\x00\x01",                         // and half another one
		"\x01a\x05\x02\x00\x00\x01\x02",                     // and one that may not be
		"\x01a\x05\x02\x01\x02\x00\x00",                     // so is the first one
		"\x01a\x05\x06" + strings.Repeat("\x00\x02", 5),
		"\x01a\x05\x07" + strings.Repeat("\x00\x02", 7), // seven values
		"\x01a\x05\x08" + strings.Repeat("\x00\x02", 8),
		"\xff\xff\xff",
	} {
		if got, n, is := event.Get([]byte(b)); !isNone(got, n, is) {
			t.Errorf("Get(%q) = %v, %d, %v, want noughts", b, got, n, is)
		}
	}
}

// checkGet holds Get against the document's words, and against Put: what is got is put as just these bytes.
func checkGet(t *testing.T, b []byte) {
	t.Helper()
	before := bytes.Clone(b)
	e, n, is := event.Get(b)
	want, m, there := get(before)
	if !same(e, want) || n != m || is != there {
		t.Fatalf("Get(%v) = %v, %d, %v, want %v, %d, %v", before, e, n, is, want, m, there)
	}
	if !bytes.Equal(b, before) {
		t.Fatalf("Get(%v) changed them to %v", before, b)
	}
	if p, may := event.Put(e); is && (!may || !bytes.Equal(p, before[:n])) {
		t.Fatalf("Get(%v) = %v, of which Put is %v, %v", before, e, p, may)
	}
}

// P6.2: Get is what the document's words say, of many bytes that look like an event's.
func TestGet(t *testing.T) {
	checkGet(t, nil)
	signs := []byte{0, 1, 2, 3, 4, 'a', 128}
	var grow func(b []byte, more int)
	grow = func(b []byte, more int) {
		checkGet(t, b)
		if more == 0 {
			return
		}
		for _, x := range signs {
			grow(append(b[:len(b):len(b)], x), more-1)
		}
	}
	for _, head := range []string{"", "\x01a", "\x02ab\x80\x01", "\x01a\x05\x01", "\x01a\x05\x02\x02\x01a", "\x01a\x05\x06\x01\x00\x00\x04\x02\x00\x03\x80"} {
		grow([]byte(head), 5)
	}
	r := rand.New(rand.NewSource(62))
	for range 50000 {
		b := make([]byte, r.Intn(40))
		for i := range b {
			b[i] = "\x00\x01\x01\x01\x02\x02\x03\x04\x06\x07\x0c\x0dabcz09_A\x80\x81\xff"[r.Intn(23)]
		}
		checkGet(t, b)
	}
}

// P6.2: one byte more, less, or other than Put's is got by the document's words too.
func TestGetOfAlmostPut(t *testing.T) {
	for _, e := range good() {
		b, _ := event.Put(e)
		for i := range b {
			for bit := range 8 {
				c := bytes.Clone(b)
				c[i] ^= 1 << bit
				checkGet(t, c)
			}
			checkGet(t, slices.Delete(bytes.Clone(b), i, i+1))
			for _, x := range []byte{0, 1, 2, 'a', 128} {
				checkGet(t, slices.Insert(bytes.Clone(b), i, x))
			}
		}
	}
}

// P6.3: two that are not the same are put unlike, and neither one's bytes are a beginning of the other one's.
func TestPutApart(t *testing.T) {
	for i, a := range good() {
		for j, b := range good() {
			p, _ := event.Put(a)
			q, _ := event.Put(b)
			if like := bytes.HasPrefix(p, q); like != same(a, b) {
				t.Errorf("%d and %d: %v of %v, %v of %v", i, j, p, a, q, b)
			}
		}
	}
}

// P6.3: an event that is valid has as many values as there are fields, and is none of a schema of one more, or one less.
func TestValidOfNoMoreFields(t *testing.T) {
	for _, e := range good() {
		s := schemaOf(e)
		if got := event.Valid(s, e); got != api.OK {
			t.Errorf("Valid(%v, %v) = %v", s, e, got)
		}
		for n := range len(s.F) {
			less := api.Schema{Name: s.Name, Ver: s.Ver, F: s.F[:n]}
			if got := event.Valid(less, e); got != api.ErrType {
				t.Errorf("Valid(%v, %v) = %v", less, e, got)
			}
		}
		for kind := range api.Kinds {
			next := api.Schema{Name: s.Name, Ver: s.Ver + 1, F: append(slices.Clone(s.F), api.Field{Name: "more", Kind: kind})}
			if got := event.Valid(next, e); schema.Fits(s, next) && got != api.ErrType {
				t.Errorf("Valid(%v, %v) = %v", next, e, got)
			}
		}
	}
}

// R3: what is handed in stays as it was, also what stands behind it.
func TestArgumentsStayAsTheyWere(t *testing.T) {
	for _, e := range all() {
		room := append(slices.Clone(e.V), number(7), truth(1))
		was := slices.Clone(room)
		a := of(e.Name, e.At, room[:len(e.V)]...)
		b := of(e.Name, e.At, room[:len(e.V)+1]...)
		s := schemaOf(b)
		fields := slices.Clone(s.F)
		event.May(a)
		event.Valid(s, a)
		event.Valid(s, b)
		event.Same(a, b)
		event.Put(a)
		if !slices.Equal(room, was) || !slices.Equal(s.F, fields) {
			t.Errorf("%v became %v, %v became %v", was, room, fields, s.F)
		}
	}
}

// R3: what is answered is the caller's own, and does not hang on what was handed in.
func TestAnswersAreOwn(t *testing.T) {
	for _, e := range good() {
		b, _ := event.Put(e)
		kept := bytes.Clone(b)
		got, _, _ := event.Get(b)
		other, _, _ := event.Get(b)
		spoil(b)
		clear(other.V[:cap(other.V)])
		if !same(got, e) {
			t.Errorf("%v became %v", e, got)
		}
		if again, _ := event.Put(got); !bytes.Equal(again, kept) {
			t.Errorf("Put(%v) = %v, when an earlier answer was changed", got, again)
		}
	}
}

// spoil changes all bytes of a list, and all that it has room for.
func spoil(b []byte) {
	b = b[:cap(b)]
	for i := range b {
		b[i] ^= 85
	}
}

// R5: what was asked before changes nothing.
func TestNothingKept(t *testing.T) {
	for range 3 {
		for _, e := range all() {
			checkPut(t, e)
			checkValid(t, schemaOf(e), e)
			b, _ := event.Put(e)
			checkGet(t, b)
			if got, want := event.May(e), may(e); got != want {
				t.Errorf("May(%v) = %v, want %v", e, got, want)
			}
		}
	}
}

// R1: long names, many values and many bytes, of which few are taken.
func TestLongArguments(t *testing.T) {
	long := strings.Repeat("a", 1<<20)
	many := of("a", 1, make([]api.Value, 1<<18)...)
	if event.May(many) || event.May(of(long, 1)) || !event.Same(many, clone(many)) {
		t.Error("long ones are told wrongly")
	}
	s := api.Schema{Name: "a", Ver: 1, F: make([]api.Field, 1<<18)}
	if event.Valid(s, many) != api.ErrArg || event.Valid(s, of("a", 1)) != api.ErrArg || event.Valid(like("a"), many) != api.ErrArg {
		t.Error("long ones are valid")
	}
	b, _ := event.Put(of("a", 1, text("x")))
	if e, n, is := event.Get(append(b, long...)); !is || n != len(b) || !same(e, of("a", 1, text("x"))) {
		t.Errorf("got %v, %d, %v", e, n, is)
	}
	if e, n, is := event.Get([]byte(long)); !isNone(e, n, is) {
		t.Errorf("got %v, %d, %v", e, n, is)
	}
}
