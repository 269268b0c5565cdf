package crc_test

import (
	"bytes"
	"hash/crc32"
	"math"
	"slices"
	"testing"

	"towncrier/crc"
)

// plain is Next by the document's words, bit by bit.
func plain(sum uint32, b []byte) uint32 {
	word := ^sum
	for _, x := range b {
		word ^= uint32(x)
		for range 8 {
			odd := word%2 == 1
			word /= 2
			if odd {
				word ^= 3988292384
			}
		}
	}
	return ^word
}

// sums are those with no bit, with each one bit, with each bit but one, and some between.
func sums() []uint32 {
	l := []uint32{0, math.MaxUint32, 3988292384, 3421780262, 0x01020304, 0x55555555, 0xaaaaaaaa}
	for i := range 32 {
		l = append(l, 1<<i, ^uint32(1<<i))
	}
	return l
}

// all is each byte once, in order.
func all() []byte {
	b := make([]byte, 256)
	for i := range b {
		b[i] = byte(i)
	}
	return b
}

// some are bytes of many lengths, with bytes that come again and ones that do not.
func some() [][]byte {
	up := all()
	down := slices.Clone(up)
	slices.Reverse(down)
	l := [][]byte{nil, {}, up, down, slices.Concat(up, up, down), []byte("123456789"), []byte("towncrier")}
	for _, n := range []int{1, 2, 3, 4, 5, 7, 8, 9, 31, 32, 255, 256, 257, 511, 512, 513, 5000} {
		mixed := make([]byte, n)
		for i := range mixed {
			mixed[i] = byte(i*i*7 + i*13 + n)
		}
		l = append(l, make([]byte, n), bytes.Repeat([]byte{255}, n), bytes.Repeat([]byte{1, 0, 128}, n), mixed)
	}
	return l
}

func checkNext(t *testing.T, sum uint32, b []byte) {
	t.Helper()
	if got, want := crc.Next(sum, b), plain(sum, b); got != want {
		t.Fatalf("Next(%d, %v) = %d, want %d", sum, b, got, want)
	}
}

// P2.1: the document's example, and checks that are known of old.
func TestOfKnownBytes(t *testing.T) {
	for _, x := range []struct {
		b   string
		sum uint32
	}{
		{"", 0},
		{"123456789", 3421780262},
		{"a", 0xe8b7be43},
		{"abc", 0x352441c2},
		{"\x00", 0xd202ef8d},
		{"\xff", 0xff000000},
		{"\x00\x00\x00\x00", 0x2144df1c},
		{"\xff\xff\xff\xff", 0xffffffff},
		{"The quick brown fox jumps over the lazy dog", 0x414fa339},
	} {
		if sum := crc.Of([]byte(x.b)); sum != x.sum {
			t.Errorf("Of(%q) = %#x, want %#x", x.b, sum, x.sum)
		}
	}
}

// P2.1: Of is Next of 0, and both are what the document's words, and the library, tell.
func TestOfIsNextOfNought(t *testing.T) {
	for _, b := range some() {
		checkNext(t, 0, b)
		if sum := crc.Of(b); sum != crc.Next(0, b) || sum != crc32.ChecksumIEEE(b) {
			t.Errorf("Of(%v) = %d; Next of 0 is %d, the library's %d", b, sum, crc.Next(0, b), crc32.ChecksumIEEE(b))
		}
	}
}

// P2.1: of no byte each sum stays, nil or empty.
func TestNextOfNothingIsTheSum(t *testing.T) {
	for _, sum := range sums() {
		if crc.Next(sum, nil) != sum || crc.Next(sum, []byte{}) != sum {
			t.Errorf("Next(%d, nothing) = %d, %d", sum, crc.Next(sum, nil), crc.Next(sum, []byte{}))
		}
	}
}

// P2.1: each byte, behind each sum, whether a check or not.
func TestNextOfEachByteBehindEachSum(t *testing.T) {
	for _, sum := range sums() {
		for x := range 256 {
			checkNext(t, sum, []byte{byte(x)})
			checkNext(t, sum, []byte{byte(x), byte(x)})
			checkNext(t, sum, []byte{byte(x), 0, 255, byte(x)})
		}
		for _, b := range some() {
			checkNext(t, sum, b)
			if got, want := crc.Next(sum, b), crc32.Update(sum, crc32.IEEETable, b); got != want {
				t.Fatalf("Next(%d, %v) = %d, the library's %d", sum, b, got, want)
			}
		}
	}
}

// P2.1: each two bytes, so that each byte is taken behind each low byte of a word.
func TestOfEachTwoBytes(t *testing.T) {
	for x := range 256 {
		for y := range 256 {
			checkNext(t, 0, []byte{byte(x), byte(y)})
		}
	}
}

// P2.2: wherever bytes are cut, Next of the first part's check is the check of all.
func TestNextGoesOnWhereverBytesAreCut(t *testing.T) {
	for _, b := range some() {
		if len(b) > 600 {
			b = b[:600]
		}
		want := crc.Of(b)
		for i := range len(b) + 1 {
			if sum := crc.Next(crc.Of(b[:i]), b[i:]); sum != want {
				t.Fatalf("%v, cut at %d: %d, want %d", b, i, sum, want)
			}
		}
	}
}

// P2.2: likewise of three parts, behind any sum, and byte by byte.
func TestNextGoesOnPartByPart(t *testing.T) {
	b := []byte("\x00\x00123456789\xff\xff\x80")
	for _, sum := range sums() {
		want, slow := crc.Next(sum, b), sum
		for i := range len(b) + 1 {
			for j := i; j <= len(b); j++ {
				if got := crc.Next(crc.Next(crc.Next(sum, b[:i]), b[i:j]), b[j:]); got != want {
					t.Fatalf("behind %d, cut at %d and %d: %d, want %d", sum, i, j, got, want)
				}
			}
		}
		for i := range b {
			slow = crc.Next(slow, b[i:i+1])
		}
		if slow != want {
			t.Errorf("behind %d, byte by byte: %d, want %d", sum, slow, want)
		}
	}
}

// P2.2: bytes that differ in one place alone have other checks, whatever the place, and the bits.
func TestOneOtherByteIsAnotherCheck(t *testing.T) {
	for _, b := range some() {
		if len(b) > 64 {
			b = b[:64]
		}
		was := crc.Of(b)
		for i := range b {
			seen := map[uint32]int{was: 0}
			for bits := 1; bits < 256; bits++ {
				other := bytes.Clone(b)
				other[i] ^= byte(bits)
				sum := crc.Of(other)
				if like, is := seen[sum]; is {
					t.Fatalf("%v with the bits %d, and %d, of place %d turned: both %d", b, like, bits, i, sum)
				}
				seen[sum] = bits
			}
		}
	}
}

// P2.2: likewise at both ends, and in the middle, of as many bytes as a frame has.
func TestOneOtherByteOfAFrame(t *testing.T) {
	b := bytes.Repeat([]byte("towncrier "), 52)[:512]
	was := crc.Of(b)
	for _, i := range []int{0, 1, 255, 256, 510, 511} {
		for bits := 1; bits < 256; bits++ {
			other := bytes.Clone(b)
			other[i] ^= byte(bits)
			if crc.Of(other) == was {
				t.Errorf("place %d, bits %d: the check stays %d", i, bits, was)
			}
		}
	}
}

// R3: what is handed in stays as it was, also what stands behind it.
func TestBytesStayAsTheyWere(t *testing.T) {
	b := slices.Concat(all(), []byte("behind"))
	was := bytes.Clone(b)
	crc.Of(b[:256])
	crc.Next(7, b[:100])
	if !bytes.Equal(b, was) {
		t.Errorf("%v became %v", was, b)
	}
}

// R5: what was asked before, and what is asked meanwhile, changes nothing.
func TestNothingHangsOnWhatWasAsked(t *testing.T) {
	told := make(chan uint32)
	for range 8 {
		go func() {
			for _, b := range some() {
				crc.Next(5, b)
			}
			told <- crc.Of([]byte("123456789"))
		}()
	}
	for range 8 {
		if sum := <-told; sum != 3421780262 {
			t.Errorf("Of(123456789) = %d behind others", sum)
		}
	}
}
