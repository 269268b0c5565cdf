package value_test

import (
	"bytes"
	"encoding/binary"
	"math"
	"math/rand"
	"slices"
	"strings"
	"testing"

	"towncrier/api"
	"towncrier/value"
)

func number(n int) api.Value  { return api.Value{Kind: api.Int, N: n} }
func truth(n int) api.Value   { return api.Value{Kind: api.Bool, N: n} }
func text(s string) api.Value { return api.Value{Kind: api.Bytes, S: s} }
func moment(n int) api.Value  { return api.Value{Kind: api.Time, N: n} }

// may is May by the document's words.
func may(v api.Value) bool {
	switch v.Kind {
	case 0:
		return v.S == ""
	case 1:
		return v.S == "" && (v.N == 0 || v.N == 1)
	case 2:
		return v.N == 0 && len(v.S) <= 40
	case 3:
		return v.S == "" && 0 <= v.N && v.N <= 1<<50
	}
	return false
}

// groups is le's Put.
func groups(n uint64) []byte {
	return binary.AppendUvarint(nil, n)
}

// put is Put by the document's words.
func put(v api.Value) ([]byte, bool) {
	if !may(v) {
		return nil, false
	}
	b := []byte{byte(v.Kind)}
	switch v.Kind {
	case 0:
		return binary.AppendVarint(b, int64(v.N)), true // the same zigzag as le's
	case 2:
		b = append(b, groups(uint64(len(v.S)))...)
		return append(b, v.S...), true
	}
	return append(b, groups(uint64(v.N))...), true
}

// less is Less by the document's words.
func less(a, b api.Value) (bool, bool) {
	if !may(a) || !may(b) || a.Kind != b.Kind {
		return false, false
	}
	if a.Kind != 2 {
		return a.N < b.N, true
	}
	for i := 0; i < len(a.S) && i < len(b.S); i++ {
		if a.S[i] != b.S[i] {
			return a.S[i] < b.S[i], true
		}
	}
	return len(a.S) < len(b.S), true
}

// good are values that may be, the edges among them.
func good() []api.Value {
	l := []api.Value{truth(0), truth(1)}
	for _, n := range []int{0, 1, -1, 2, -2, 63, 64, -64, -65, 127, 128, 300, 8191, 8192, 1 << 50, 1<<50 + 1, -1 << 50, math.MaxInt - 1, math.MaxInt, math.MinInt + 1, math.MinInt} {
		l = append(l, number(n))
	}
	for _, n := range []int{0, 1, 2, 127, 128, 300, 16383, 16384, 1<<49 - 1, 1 << 49, 1<<50 - 1, 1 << 50} {
		l = append(l, moment(n))
	}
	for _, s := range []string{"", "\x00", "\x00\x00", "\x01", "a", "ab", "aa", "b", "aB", "\x7f", "\x80", "\xff", "\xff\xfe", "é", "€", "a\x00", "a\xff"} {
		l = append(l, text(s))
	}
	for _, n := range []int{2, 3, 39, 40} {
		l = append(l, text(strings.Repeat("x", n)), text(strings.Repeat("\x00", n)), text(strings.Repeat("\xff", n)))
	}
	return l
}

// bad are values that may not be.
func bad() []api.Value {
	l := []api.Value{
		{Kind: api.Int, S: "a"},
		{Kind: api.Int, N: 1, S: "\x00"},
		{Kind: api.Bool, S: "a"},
		{Kind: api.Bool, N: 1, S: "\x00"},
		{Kind: api.Time, S: "a"},
		{Kind: api.Time, N: 5, S: "\x00"},
		{Kind: api.Bytes, N: 1},
		{Kind: api.Bytes, N: -1},
		{Kind: api.Bytes, N: 1, S: "a"},
		{Kind: api.Bytes, N: 3, S: "abc"},
		{Kind: api.Bytes, N: math.MinInt, S: "abc"},
		text(strings.Repeat("x", 41)),
		text(strings.Repeat("x", 128)),
		text(strings.Repeat("x", 1000)),
		text(strings.Repeat("é", 21)),
	}
	for _, n := range []int{2, 3, -1, 256, 257, 1 << 32, 1<<32 + 1, math.MaxInt, math.MinInt, math.MinInt + 1} {
		l = append(l, truth(n))
	}
	for _, n := range []int{-1, -2, 1<<50 + 1, 1 << 51, math.MaxInt, math.MinInt} {
		l = append(l, moment(n))
	}
	for _, kind := range []int{4, 5, -1, 255, 256, 257, 258, 259, 1 << 32, 1<<32 + 2, math.MaxInt, math.MinInt} {
		l = append(l, api.Value{Kind: kind}, api.Value{Kind: kind, N: 1}, api.Value{Kind: kind, S: "a"}, api.Value{Kind: kind, N: 1, S: "a"})
	}
	return l
}

func all() []api.Value {
	return append(good(), bad()...)
}

// P4.1: a value may be, if it is one of the four kinds, with what these may have, and nothing else.
func TestMay(t *testing.T) {
	for _, v := range good() {
		if !value.May(v) {
			t.Errorf("May(%v) = false", v)
		}
	}
	for _, v := range bad() {
		if value.May(v) {
			t.Errorf("May(%v) = true", v)
		}
	}
	for kind := -3; kind < 10; kind++ {
		for n := -3; n < 10; n++ {
			for size := range 45 {
				v := api.Value{Kind: kind, N: n, S: strings.Repeat("y", size)}
				if got, want := value.May(v), may(v); got != want {
					t.Errorf("May(%v) = %v, want %v", v, got, want)
				}
			}
		}
	}
}

// P4.1: the document's example, and one of each kind, written out.
func TestPutExamples(t *testing.T) {
	for _, c := range []struct {
		v    api.Value
		want []byte
	}{
		{number(-1), []byte{0, 1}},
		{number(0), []byte{0, 0}},
		{number(1), []byte{0, 2}},
		{number(150), []byte{0, 172, 2}},
		{number(math.MaxInt), []byte{0, 254, 255, 255, 255, 255, 255, 255, 255, 255, 1}},
		{number(math.MinInt), []byte{0, 255, 255, 255, 255, 255, 255, 255, 255, 255, 1}},
		{truth(0), []byte{1, 0}},
		{truth(1), []byte{1, 1}},
		{text(""), []byte{2, 0}},
		{text("a"), []byte{2, 1, 'a'}},
		{text("\x00\xff"), []byte{2, 2, 0, 255}},
		{text("é"), []byte{2, 2, 0xc3, 0xa9}},
		{text(strings.Repeat("x", 40)), append([]byte{2, 40}, strings.Repeat("x", 40)...)},
		{moment(0), []byte{3, 0}},
		{moment(300), []byte{3, 172, 2}},
		{moment(1 << 50), []byte{3, 128, 128, 128, 128, 128, 128, 128, 2}},
	} {
		if got, is := value.Put(c.v); !is || !bytes.Equal(got, c.want) {
			t.Errorf("Put(%v) = %v, %v, want %v", c.v, got, is, c.want)
		}
	}
}

// P4.1: Put is what the document's words say, of all that may be, and nothing and false of all else.
func TestPut(t *testing.T) {
	for _, v := range all() {
		checkPut(t, v)
	}
	r := rand.New(rand.NewSource(4))
	for range 20000 {
		checkPut(t, someValue(r))
	}
}

func checkPut(t *testing.T, v api.Value) {
	t.Helper()
	got, is := value.Put(v)
	want, may := put(v)
	if is != may || !bytes.Equal(got, want) {
		t.Fatalf("Put(%v) = %v, %v, want %v, %v", v, got, is, want, may)
	}
}

// someValue is one that mostly may be, but not always.
func someValue(r *rand.Rand) api.Value {
	v := api.Value{Kind: r.Intn(6) - 1, N: int(r.Uint64() >> r.Intn(64))}
	switch r.Intn(3) {
	case 0:
		v.N = -v.N
	case 1:
		v.N = r.Intn(4) - 1
	}
	if v.Kind == api.Bytes || r.Intn(8) == 0 {
		v.S = someText(r)
	}
	if v.Kind == api.Bytes && r.Intn(8) != 0 {
		v.N = 0
	}
	return v
}

// someText is bytes of which many are alike, so that one is often a beginning of another one.
func someText(r *rand.Rand) string {
	b := make([]byte, r.Intn(44))
	for i := range b {
		if b[i] = "ab\x00\xff"[r.Intn(4)]; r.Intn(9) == 0 {
			b[i] = byte(r.Intn(256))
		}
	}
	return string(b[:r.Intn(len(b)+1)])
}

func isNone(v api.Value, n int, is bool) bool {
	return v == api.Value{} && n == 0 && !is
}

// P4.1, P4.3: what is put is got, alone and whatever stands behind it; no shorter piece of it is one.
func TestGetOfPut(t *testing.T) {
	for _, v := range good() {
		b, _ := value.Put(v)
		for _, tail := range [][]byte{nil, {0}, {1}, {127}, {128}, {255}, b, bytes.Repeat([]byte{255}, 50), bytes.Repeat([]byte{0}, 50)} {
			long := slices.Concat(b, tail)
			if got, n, is := value.Get(long); !is || got != v || n != len(b) {
				t.Errorf("Get(%v) = %v, %d, %v, want %v, %d", long, got, n, is, v, len(b))
			}
		}
		for i := range b {
			if got, n, is := value.Get(b[:i]); !isNone(got, n, is) {
				t.Errorf("Get(%v) = %v, %d, %v, want noughts", b[:i], got, n, is)
			}
		}
	}
}

// P4.1: bytes by which no value that may be is put are none: noughts and false.
func TestGetNone(t *testing.T) {
	forty := bytes.Repeat([]byte{'x'}, 100)
	for _, b := range [][]byte{
		nil,
		{},
		{0},
		{1},
		{2},
		{3},
		{0, 128},         // more is told, and none comes
		{0, 129, 0},      // the same number has fewer groups
		{1, 128, 0},      // so has nought
		{2, 129, 0, 'a'}, // so has how many bytes there are
		{3, 172, 130, 0}, // so has a time
		{1, 2},           // no Bool
		{1, 129, 1},      // 129, not 1
		{1, 128, 2},      // 256, not 0
		{1, 255, 255, 255, 255, 255, 255, 255, 255, 255, 1}, // 2^64 - 1
		{1, 128, 128, 128, 128, 128, 128, 128, 128, 128, 1}, // 2^63
		{2, 1},           // one byte too few
		{2, 3, 'a', 'b'}, // so here
		append([]byte{2, 41}, forty...),
		append([]byte{2, 100}, forty...),
		append([]byte{2, 128, 1}, append(forty, forty...)...),
		append([]byte{2, 255, 255, 255, 255, 255, 255, 255, 255, 255, 1}, forty...),
		append([]byte{2, 128, 128, 128, 128, 128, 128, 128, 128, 128, 1}, forty...),
		append([]byte{2, 129, 128, 128, 128, 128, 128, 128, 128, 128, 1}, forty...), // 2^63 + 1
		append([]byte{2, 129, 128, 128, 128, 16}, forty...),                         // 2^32 + 1
		{3, 129, 128, 128, 128, 128, 128, 128, 2},                                   // 2^50 + 1
		{3, 128, 128, 128, 128, 128, 128, 128, 4},                                   // 2^51
		{3, 255, 255, 255, 255, 255, 255, 255, 255, 255, 1},
		{3, 128, 128, 128, 128, 128, 128, 128, 128, 128, 1},
		{0, 255, 255, 255, 255, 255, 255, 255, 255, 255, 2}, // more than 64 bits
		{0, 255, 255, 255, 255, 255, 255, 255, 255, 255, 255, 1},
		{4, 0},
		{4, 1, 'a'},
		{5, 0},
		{128, 0},
		{128, 2, 1, 'a'},
		{129, 0, 0},
		{255, 0},
		{255, 255, 255},
	} {
		if got, n, is := value.Get(b); !isNone(got, n, is) {
			t.Errorf("Get(%v) = %v, %d, %v, want noughts", b, got, n, is)
		}
	}
}

// checkGet holds Get against Put: what is got is put as just these bytes, and what is not got is put as no beginning.
func checkGet(t *testing.T, b []byte) {
	t.Helper()
	before := bytes.Clone(b)
	v, n, is := value.Get(b)
	want, m, there := get(before)
	if v != want || n != m || is != there {
		t.Fatalf("Get(%v) = %v, %d, %v, want %v, %d, %v", before, v, n, is, want, m, there)
	}
	if !bytes.Equal(b, before) {
		t.Fatalf("Get(%v) changed them to %v", before, b)
	}
	if !is {
		return
	}
	if p, may := put(v); !may || !bytes.Equal(p, before[:n]) {
		t.Fatalf("Get(%v) = %v, of which Put is %v, %v", before, v, p, may)
	}
}

// get is Get by the document's words: of all values that b could begin by, the one by whose Put it does.
func get(b []byte) (api.Value, int, bool) {
	for _, v := range candidates(b) {
		if p, may := put(v); may && bytes.HasPrefix(b, p) {
			return v, len(p), true
		}
	}
	return api.Value{}, 0, false
}

// candidates are values among which the one is by whose Put b begins, if there is one.
func candidates(b []byte) []api.Value {
	var l []api.Value
	if len(b) == 0 {
		return nil
	}
	n, _ := binary.Uvarint(b[1:])
	z, _ := binary.Varint(b[1:])
	l = append(l, number(int(z)), truth(0), truth(1), moment(int(n)))
	for size := range 41 {
		if 2+size <= len(b) {
			l = append(l, text(string(b[2:2+size])))
		}
	}
	return l
}

// P4.1: Get is what the document's words say, of all short bytes, and of many long ones.
func TestGet(t *testing.T) {
	checkGet(t, nil)
	for a := range 256 {
		checkGet(t, []byte{byte(a)})
		for b := range 256 {
			checkGet(t, []byte{byte(a), byte(b)})
		}
	}
	for a := range 6 {
		for b := range 256 {
			for c := range 256 {
				checkGet(t, []byte{byte(a), byte(b), byte(c)})
			}
		}
	}
	r := rand.New(rand.NewSource(41))
	for range 50000 {
		b := make([]byte, r.Intn(60))
		for i := range b {
			b[i] = byte(r.Intn(256)) | byte(r.Intn(2)<<7)
		}
		if len(b) > 0 {
			b[0] = byte(r.Intn(5))
		}
		if len(b) > 1 && r.Intn(2) == 0 {
			b[1] = byte(r.Intn(50))
		}
		checkGet(t, b)
	}
}

// P4.1: one byte more, less, or other than Put's is got by the document's words too.
func TestGetOfAlmostPut(t *testing.T) {
	for _, v := range good() {
		b, _ := value.Put(v)
		for i := range b {
			for bit := range 8 {
				c := bytes.Clone(b)
				c[i] ^= 1 << bit
				checkGet(t, c)
			}
			checkGet(t, slices.Delete(bytes.Clone(b), i, i+1))
			checkGet(t, slices.Insert(bytes.Clone(b), i, 128))
		}
	}
}

// P4.2: Less, written out.
func TestLessExamples(t *testing.T) {
	for _, c := range []struct {
		a, b api.Value
		want bool
	}{
		{number(1), number(2), true},
		{number(2), number(1), false},
		{number(2), number(2), false},
		{number(-1), number(0), true},
		{number(-2), number(-1), true},
		{number(math.MinInt), number(math.MaxInt), true},
		{number(math.MaxInt), number(math.MinInt), false},
		{truth(0), truth(1), true},
		{truth(1), truth(0), false},
		{truth(0), truth(0), false},
		{truth(1), truth(1), false},
		{moment(0), moment(1 << 50), true},
		{moment(1 << 50), moment(0), false},
		{moment(1 << 50), moment(1 << 50), false},
		{text(""), text(""), false},
		{text(""), text("\x00"), true},
		{text("\x00"), text(""), false},
		{text("a"), text("b"), true},
		{text("ab"), text("b"), true},
		{text("b"), text("ab"), false},
		{text("a"), text("ab"), true},
		{text("ab"), text("a"), false},
		{text("B"), text("a"), true},
		{text("\x7f"), text("\x80"), true}, // bytes from 0 to 255, not from -128 on
		{text("\xff"), text("a"), false},
		{text("z"), text("é"), true},
		{text("\xef\xbf\xbd"), text("\xff"), true}, // no runes
		{text(strings.Repeat("x", 39)), text(strings.Repeat("x", 40)), true},
		{text(strings.Repeat("x", 39) + "a"), text(strings.Repeat("x", 39) + "b"), true},
		{text(strings.Repeat("x", 39) + "b"), text(strings.Repeat("x", 39) + "a"), false},
	} {
		if got, is := value.Less(c.a, c.b); !is || got != c.want {
			t.Errorf("Less(%v, %v) = %v, %v, want %v, true", c.a, c.b, got, is, c.want)
		}
	}
}

// P4.2: Less is what the document's words say, of all pairs: false and false where one may not be, or their Kinds differ.
func TestLess(t *testing.T) {
	for _, a := range all() {
		for _, b := range all() {
			checkLess(t, a, b)
		}
	}
	r := rand.New(rand.NewSource(42))
	for range 50000 {
		a, b := someValue(r), someValue(r)
		if r.Intn(2) == 0 {
			b.Kind = a.Kind
		}
		checkLess(t, a, b)
	}
}

func checkLess(t *testing.T, a, b api.Value) {
	t.Helper()
	got, is := value.Less(a, b)
	if want, both := less(a, b); got != want || is != both {
		t.Fatalf("Less(%v, %v) = %v, %v, want %v, %v", a, b, got, is, want, both)
	}
}

// P4.3: of two values of one kind one is less, or they are the same.
func TestOneIsLess(t *testing.T) {
	for _, a := range good() {
		for _, b := range good() {
			up, is := value.Less(a, b)
			down, back := value.Less(b, a)
			if is != (a.Kind == b.Kind) || back != is {
				t.Errorf("Less of %v and %v: %v, back %v", a, b, is, back)
			}
			count := 0
			for _, so := range []bool{up, down, a == b} {
				if so {
					count++
				}
			}
			if is && count != 1 {
				t.Errorf("%v and %v: less %v, greater %v, the same %v", a, b, up, down, a == b)
			}
		}
	}
}

// P4.3: what is less than one that is less is less.
func TestLessOfLess(t *testing.T) {
	for _, a := range good() {
		for _, b := range good() {
			for _, c := range good() {
				ab, _ := value.Less(a, b)
				bc, _ := value.Less(b, c)
				if ac, _ := value.Less(a, c); ab && bc && !ac {
					t.Errorf("%v, %v, %v", a, b, c)
				}
			}
		}
	}
}

// P4.3: two values that are not the same are put unlike, and neither one's bytes are a beginning of the other one's.
func TestPutApart(t *testing.T) {
	for i, a := range good() {
		for j, b := range good() {
			p, _ := value.Put(a)
			q, _ := value.Put(b)
			if a != b && bytes.HasPrefix(p, q) {
				t.Errorf("%d and %d: %v of %v, %v of %v", i, j, p, a, q, b)
			}
		}
	}
}

// R3: what is answered is the caller's own.
func TestAnswersAreOwn(t *testing.T) {
	for _, v := range good() {
		b, _ := value.Put(v)
		kept := bytes.Clone(b)
		got, _, _ := value.Get(b)
		spoil(b)
		if got != v {
			t.Errorf("%v became %v, when the bytes were changed", v, got)
		}
		if again, _ := value.Put(v); !bytes.Equal(again, kept) {
			t.Errorf("Put(%v) = %v, when an earlier answer was changed", v, again)
		}
	}
}

// spoil changes all bytes of a list, and all that it has room for.
func spoil(b []byte) {
	b = b[:cap(b)]
	for i := range b {
		b[i] ^= 85
	}
}

// R5: what was asked before changes nothing.
func TestNothingKept(t *testing.T) {
	for range 3 {
		for _, v := range all() {
			checkPut(t, v)
			b, _ := value.Put(v)
			checkGet(t, b)
			if got, want := value.May(v), may(v); got != want {
				t.Errorf("May(%v) = %v, want %v", v, got, want)
			}
		}
	}
}

// R1: Get of many bytes, of which it takes few.
func TestGetOfLongBytes(t *testing.T) {
	long := make([]byte, 1<<20)
	long[0], long[1] = 2, 40
	if v, n, is := value.Get(long); !is || n != 42 || v != text(strings.Repeat("\x00", 40)) {
		t.Errorf("got %v, %d, %v", v, n, is)
	}
	long[1], long[2], long[3] = 128, 128, 4
	if v, n, is := value.Get(long); !isNone(v, n, is) {
		t.Errorf("got %v, %d, %v", v, n, is)
	}
}
