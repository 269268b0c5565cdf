package le_test

import (
	"bytes"
	"encoding/binary"
	"math"
	"slices"
	"testing"

	"towncrier/le"
)

// numbers are those around each power of two, where the count of groups changes, and some in between.
func numbers() []uint64 {
	l := []uint64{300, 16383, 16385, 0x0123456789abcdef, 0xfedcba9876543210, 0x5555555555555555, 0xaaaaaaaaaaaaaaaa}
	for i := range 64 {
		l = append(l, 1<<i-1, 1<<i, 1<<i+1)
	}
	return append(l, math.MaxUint64-1, math.MaxUint64)
}

// wholes are numbers of both signs, with the lowest and the greatest one.
func wholes() []int {
	l := []int{math.MinInt64, math.MinInt64 + 1, math.MaxInt64 - 1, math.MaxInt64}
	for _, n := range numbers() {
		l = append(l, int(n), -int(n))
	}
	return l
}

// begin is what Get must tell, by the library's own reader, which also takes longer forms than Put's.
func begin(b []byte) (uint64, int, bool) {
	n, used := binary.Uvarint(b)
	if used <= 0 || !bytes.Equal(binary.AppendUvarint(nil, n), b[:used]) {
		return 0, 0, false
	}
	return n, used, true
}

func checkGet(t *testing.T, b []byte) {
	t.Helper()
	was := bytes.Clone(b)
	n, used, is := le.Get(b)
	wantN, wantUsed, want := begin(was)
	if n != wantN || used != wantUsed || is != want {
		t.Errorf("Get(%v) = %d, %d, %v; want %d, %d, %v", was, n, used, is, wantN, wantUsed, want)
	}
	if !bytes.Equal(b, was) {
		t.Errorf("Get(%v) left %v", was, b)
	}
}

// eachString hands on all strings of signs with at most most of them; each one may be changed.
func eachString(signs []byte, most int, f func([]byte)) {
	var grow func(b []byte)
	grow = func(b []byte) {
		f(bytes.Clone(b))
		if len(b) == most {
			return
		}
		for _, s := range signs {
			grow(append(b[:len(b):len(b)], s))
		}
	}
	grow(nil)
}

// P1.1: ordinary numbers and both ends of each count of bytes.
func TestPutIsGroupsLowestFirst(t *testing.T) {
	for _, x := range []struct {
		n uint64
		b []byte
	}{
		{0, []byte{0}},
		{1, []byte{1}},
		{127, []byte{127}},
		{128, []byte{128, 1}},
		{129, []byte{129, 1}},
		{255, []byte{255, 1}},
		{256, []byte{128, 2}},
		{300, []byte{172, 2}},
		{16383, []byte{255, 127}},
		{16384, []byte{128, 128, 1}},
		{1 << 50, []byte{128, 128, 128, 128, 128, 128, 128, 2}},
		{1<<63 - 1, []byte{255, 255, 255, 255, 255, 255, 255, 255, 127}},
		{1 << 63, []byte{128, 128, 128, 128, 128, 128, 128, 128, 128, 1}},
		{1<<64 - 1, []byte{255, 255, 255, 255, 255, 255, 255, 255, 255, 1}},
	} {
		if b := le.Put(x.n); !bytes.Equal(b, x.b) {
			t.Errorf("Put(%d) = %v, want %v", x.n, b, x.b)
		}
	}
	for _, n := range numbers() {
		if b, want := le.Put(n), binary.AppendUvarint(nil, n); !bytes.Equal(b, want) {
			t.Errorf("Put(%d) = %v, want %v", n, b, want)
		}
	}
}

// P1.1: what begins by no Put has no number, no bytes, and false.
func TestGetTellsNoughtsWhereNoneIs(t *testing.T) {
	nines := bytes.Repeat([]byte{255}, 9)
	for name, b := range map[string][]byte{
		"nil":                       nil,
		"empty":                     {},
		"more, and nothing behind":  {128},
		"all bits, nothing behind":  {255, 255, 255},
		"a longer form of 0":        {128, 0},
		"a longer form of 1":        {129, 0},
		"a much longer form of 0":   {128, 128, 128, 0},
		"a longer form of 300":      {172, 130, 0},
		"a longer form, then more":  {128, 0, 1},
		"a tenth group of nought":   append(slices.Clone(nines), 0),
		"a tenth group of 2":        append(slices.Clone(nines), 2),
		"a tenth group of 3":        append(slices.Clone(nines), 3),
		"a tenth group of 127":      append(slices.Clone(nines), 127),
		"2 to the 64th":             append(bytes.Repeat([]byte{128}, 9), 2),
		"nine groups, none behind":  nines,
		"ten groups, none behind":   bytes.Repeat([]byte{255}, 10),
		"eleven groups":             append(bytes.Repeat([]byte{255}, 10), 1),
		"eleven groups, 1 in tenth": append(slices.Clone(nines), 129, 1),
		"eleven groups, 0 in last":  append(slices.Clone(nines), 129, 0),
		"a hundred groups":          append(bytes.Repeat([]byte{128}, 100), 1),
	} {
		if n, used, is := le.Get(b); n != 0 || used != 0 || is {
			t.Errorf("%s: Get(%v) = %d, %d, %v", name, b, n, used, is)
		}
	}
}

// P1.2: Zig by the document's words, with numbers of any size.
func TestZigAndZag(t *testing.T) {
	for _, x := range []struct {
		n int
		z uint64
	}{
		{0, 0}, {-1, 1}, {1, 2}, {-2, 3}, {2, 4}, {-64, 127}, {64, 128},
		{math.MaxInt64, math.MaxUint64 - 1},
		{math.MinInt64 + 1, math.MaxUint64 - 2},
		{math.MinInt64, math.MaxUint64},
	} {
		if z := le.Zig(x.n); z != x.z {
			t.Errorf("Zig(%d) = %d, want %d", x.n, z, x.z)
		}
		if n := le.Zag(x.z); n != x.n {
			t.Errorf("Zag(%d) = %d, want %d", x.z, n, x.n)
		}
	}
	for _, n := range wholes() {
		want := uint64(n)<<1 ^ uint64(n>>63)
		if z := le.Zig(n); z != want || le.Zag(z) != n {
			t.Errorf("Zig(%d) = %d, want %d; back %d", n, z, want, le.Zag(z))
		}
	}
	for _, z := range numbers() {
		if n := le.Zag(z); le.Zig(n) != z {
			t.Errorf("Zag(%d) = %d, of which Zig is %d", z, n, le.Zig(n))
		}
	}
}

// P1.2: a word's four bytes, and the number they tell.
func TestWordAndRead(t *testing.T) {
	for _, x := range []struct {
		n uint32
		b []byte
	}{
		{0, []byte{0, 0, 0, 0}},
		{1, []byte{1, 0, 0, 0}},
		{258, []byte{2, 1, 0, 0}},
		{1 << 31, []byte{0, 0, 0, 128}},
		{0x01020304, []byte{4, 3, 2, 1}},
		{0xfffefdfc, []byte{252, 253, 254, 255}},
		{math.MaxUint32, []byte{255, 255, 255, 255}},
	} {
		if b := le.Word(x.n); !bytes.Equal(b, x.b) {
			t.Errorf("Word(%d) = %v, want %v", x.n, b, x.b)
		}
		was := bytes.Clone(x.b)
		if n, is := le.Read(x.b); n != x.n || !is || !bytes.Equal(x.b, was) {
			t.Errorf("Read(%v) = %d, %v, and left %v", was, n, is, x.b)
		}
	}
	for i := range 32 {
		if n, is := le.Read(le.Word(1 << i)); n != 1<<i || !is {
			t.Errorf("Read(Word(%d)) = %d, %v", 1<<i, n, is)
		}
	}
}

// P1.2: Read is of bytes that ARE a Word, so of four and no others.
func TestReadTellsNoughtWhereNoneIs(t *testing.T) {
	for _, b := range [][]byte{nil, {}, {1}, {1, 2}, {1, 2, 3}, {1, 2, 3, 4, 5}, {1, 2, 3, 4, 0}, {4, 0, 0, 0, 1, 2, 3, 4}} {
		if n, is := le.Read(b); n != 0 || is {
			t.Errorf("Read(%v) = %d, %v", b, n, is)
		}
	}
}

// P1.3: what is put is got, whatever stands behind, and no beginning of it is.
func TestWhatIsPutIsGot(t *testing.T) {
	for _, n := range numbers() {
		b := le.Put(n)
		for _, behind := range [][]byte{nil, {0}, {1}, {127}, {128}, {255}, {0, 0}, le.Put(n), bytes.Repeat([]byte{255}, 12)} {
			if m, used, is := le.Get(slices.Concat(b, behind)); m != n || used != len(b) || !is {
				t.Errorf("Get(Put(%d), %v) = %d, %d, %v", n, behind, m, used, is)
			}
		}
		for i := range b {
			if m, used, is := le.Get(b[:i]); m != 0 || used != 0 || is {
				t.Errorf("Get(%v) = %d, %d, %v", b[:i], m, used, is)
			}
		}
	}
}

// P1.3: no other bytes are got: all short ones, and long ones of the bytes that bound something.
func TestNoOtherBytesAreGot(t *testing.T) {
	all := make([]byte, 256)
	for i := range all {
		all[i] = byte(i)
	}
	eachString(all, 2, func(b []byte) { checkGet(t, b) })
	eachString([]byte{0, 1, 2, 127, 128, 129, 255}, 5, func(b []byte) { checkGet(t, b) })
	for _, lead := range []byte{128, 129, 254, 255} {
		for count := 6; count <= 11; count++ {
			for last := range 256 {
				b := append(bytes.Repeat([]byte{lead}, count), byte(last))
				checkGet(t, b)
				checkGet(t, append(b, 1))
			}
		}
	}
}

// P1.3, of the other pairs: each number has a Zig and a Word of its own.
func TestZagAndReadGoBack(t *testing.T) {
	for n := -3000; n <= 3000; n++ {
		if le.Zag(le.Zig(n)) != n {
			t.Errorf("Zag(Zig(%d)) = %d", n, le.Zag(le.Zig(n)))
		}
	}
	eachString([]byte{0, 1, 127, 128, 255}, 5, func(b []byte) {
		n, is := le.Read(b)
		if is != (len(b) == 4) || is && !bytes.Equal(le.Word(n), b) || !is && n != 0 {
			t.Errorf("Read(%v) = %d, %v", b, n, is)
		}
	})
}

// R3: an answer is the caller's own.
func TestAnswersAreNew(t *testing.T) {
	b, w := le.Put(300), le.Word(300)
	clear(b[:cap(b)])
	clear(w[:cap(w)])
	if !bytes.Equal(le.Put(300), []byte{172, 2}) || !bytes.Equal(le.Word(300), []byte{44, 1, 0, 0}) {
		t.Errorf("Put(300) = %v, Word(300) = %v behind a change of what was answered", le.Put(300), le.Word(300))
	}
}
