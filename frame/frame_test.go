package frame_test

import (
	"bytes"
	"encoding/binary"
	"hash/crc32"
	"math"
	"math/rand"
	"slices"
	"testing"

	"towncrier/api"
	"towncrier/frame"
)

// head is the eight bytes that tell a size and a check, whether these are right or not.
func head(size, sum uint32) []byte {
	return binary.LittleEndian.AppendUint32(binary.LittleEndian.AppendUint32(nil, size), sum)
}

// packed is a frame by the document's words, of as many bytes as one likes.
func packed(b []byte) []byte {
	return append(head(uint32(len(b)), crc32.ChecksumIEEE(b)), b...)
}

// plain is Feed by the document's words.
func plain(f api.Framer, b []byte) (api.Framer, [][]byte) {
	if f.Dead {
		return f, nil
	}
	all := append(bytes.Clone(f.B), b...)
	var l [][]byte
	i := 0
	for len(all)-i >= 8 {
		size := binary.LittleEndian.Uint32(all[i:])
		sum := binary.LittleEndian.Uint32(all[i+4:])
		if size > 512 {
			return api.Framer{Dead: true}, l
		}
		if len(all)-i-8 < int(size) {
			break
		}
		one := bytes.Clone(all[i+8 : i+8+int(size)])
		if crc32.ChecksumIEEE(one) != sum {
			return api.Framer{Dead: true}, l
		}
		l = append(l, one)
		i += 8 + int(size)
	}
	return api.Framer{B: bytes.Clone(all[i:])}, l
}

// filled is so many bytes, unlike each other.
func filled(n int) []byte {
	b := make([]byte, n)
	for i := range b {
		b[i] = byte(i*i*7 + i*13 + n)
	}
	return b
}

// turned is bytes with some bits of one place turned.
func turned(b []byte, at int, bits byte) []byte {
	b = bytes.Clone(b)
	b[at] ^= bits
	return b
}

func sameFramer(a, b api.Framer) bool {
	return a.Dead == b.Dead && bytes.Equal(a.B, b.B)
}

func sameFrames(a, b [][]byte) bool {
	return slices.EqualFunc(a, b, bytes.Equal)
}

// checkFeed holds Feed against the document's words, and against what a test expects by itself.
func checkFeed(t *testing.T, f api.Framer, b []byte, want api.Framer, frames ...[]byte) {
	t.Helper()
	got, l := frame.Feed(f, b)
	if !sameFramer(got, want) || !sameFrames(l, frames) {
		t.Errorf("Feed(%v, %v) = %v, %v, want %v, %v", f, b, got, l, want, frames)
	}
	checkPlain(t, f, b)
}

func checkPlain(t *testing.T, f api.Framer, b []byte) {
	t.Helper()
	got, l := frame.Feed(f, b)
	if want, frames := plain(f, b); !sameFramer(got, want) || !sameFrames(l, frames) {
		t.Fatalf("Feed(%v, %v) = %v, %v, by the document's words %v, %v", f, b, got, l, want, frames)
	}
}

// streams are bytes of many frames, good ones, bad ones, and none.
func streams() [][]byte {
	a, none, b := packed([]byte("a")), packed(nil), packed([]byte("more of it"))
	full := packed(filled(512))
	return [][]byte{
		nil,
		a,
		none,
		slices.Concat(none, none, none),
		slices.Concat(a, b, none, a),
		slices.Concat(a, b)[:len(a)+len(b)-1],
		slices.Concat(a, none)[:len(a)+7],
		slices.Concat(a, head(513, 0), b),
		slices.Concat(a, b, packed(filled(513)), a),
		slices.Concat(a, head(math.MaxUint32, 0)),
		slices.Concat(a, turned(b, 4, 1), a),
		slices.Concat(a, turned(b, len(b)-1, 128), a),
		slices.Concat(a, head(0, 1), a),
		slices.Concat(a, head(512, 0), b),
		slices.Concat(full, a),
		slices.Concat(a, full[:300]),
		[]byte("towncrier, towncrier"),
		bytes.Repeat([]byte{0}, 61),
		bytes.Repeat([]byte{255}, 20),
	}
}

// fedAll is what comes of a framer by one part behind the other.
func fedAll(f api.Framer, parts ...[]byte) (api.Framer, [][]byte) {
	var all [][]byte
	for _, p := range parts {
		var l [][]byte
		f, l = frame.Feed(f, p)
		all = append(all, l...)
	}
	return f, all
}

func checkCut(t *testing.T, b []byte, parts ...[]byte) {
	t.Helper()
	want, frames := frame.Feed(api.Framer{}, b)
	got, l := fedAll(api.Framer{}, parts...)
	if !sameFramer(got, want) || !sameFrames(l, frames) {
		t.Fatalf("%v, as %v: %v, %v, want %v, %v", b, parts, got, l, want, frames)
	}
}

// P3.1: the document's example, nil or empty, and another known frame.
func TestPackKnownBytes(t *testing.T) {
	for _, b := range [][]byte{nil, {}} {
		if p, is := frame.Pack(b); !is || !bytes.Equal(p, make([]byte, 8)) {
			t.Errorf("Pack of nothing = %v, %v", p, is)
		}
	}
	want := append([]byte{9, 0, 0, 0, 0x26, 0x39, 0xf4, 0xcb}, "123456789"...)
	if p, is := frame.Pack([]byte("123456789")); !is || !bytes.Equal(p, want) {
		t.Errorf("Pack(123456789) = %v, %v, want %v", p, is, want)
	}
}

// P3.1: each size up to the greatest one: its Word, its check's, and the bytes.
func TestPackOfEachSize(t *testing.T) {
	for n := range 513 {
		b := filled(n)
		if p, is := frame.Pack(b); !is || !bytes.Equal(p, packed(b)) {
			t.Fatalf("Pack of %d bytes = %v, %v, want %v", n, p, is, packed(b))
		}
	}
}

// P3.1: nothing and false of more than 512 bytes.
func TestPackOfTooMany(t *testing.T) {
	for _, n := range []int{513, 514, 520, 521, 768, 1024, 65536, 65537, 1 << 20} {
		if p, is := frame.Pack(filled(n)); is || len(p) > 0 {
			t.Errorf("Pack of %d bytes = %v, %v", n, p, is)
		}
	}
}

// P3.2: with less than eight bytes all is left, whatever they would tell.
func TestFeedOfLessThanAHead(t *testing.T) {
	for _, h := range [][]byte{head(0, 0), head(0, 1), head(1, 0), head(513, 0), head(math.MaxUint32, 0)} {
		for n := range 8 {
			for i := range n + 1 {
				checkFeed(t, api.Framer{B: h[:i]}, h[i:n], api.Framer{B: h[:n]})
			}
		}
	}
}

// P3.2: a frame of each size is told, and one byte less of it is left.
func TestFeedOfEachSize(t *testing.T) {
	for n := range 513 {
		b := filled(n)
		p := packed(b)
		checkFeed(t, api.Framer{}, p, api.Framer{}, b)
		checkFeed(t, api.Framer{}, p[:len(p)-1], api.Framer{B: p[:len(p)-1]})
		checkFeed(t, api.Framer{B: p[:len(p)-1]}, p[len(p)-1:], api.Framer{}, b)
	}
}

// P3.2: a number above 512 is dead as soon as eight bytes are there, even where all follows, and rightly.
func TestFeedOfTooGreatANumber(t *testing.T) {
	dead := api.Framer{Dead: true}
	for _, size := range []uint32{513, 514, 520, 768, 1024, 1 << 16, 1 << 24, math.MaxInt32, 1 << 31, math.MaxUint32 - 7, math.MaxUint32} {
		checkFeed(t, api.Framer{}, head(size, 0), dead)
		checkFeed(t, api.Framer{B: head(size, 0)[:7]}, []byte{0}, dead)
		checkFeed(t, api.Framer{B: head(size, 0)}, nil, dead)
		checkFeed(t, api.Framer{}, append(head(size, 0), packed([]byte("a"))...), dead)
	}
	checkFeed(t, api.Framer{}, packed(filled(513)), dead)
	checkFeed(t, api.Framer{}, packed(filled(1024)), dead)
}

// P3.2: a wrong check is dead, but only when all is there that it is of.
func TestFeedOfAWrongCheck(t *testing.T) {
	dead := api.Framer{Dead: true}
	good := packed([]byte("news"))
	for i := 4; i < len(good); i++ {
		for _, bits := range []byte{1, 128, 255} {
			bad := turned(good, i, bits)
			checkFeed(t, api.Framer{}, bad[:len(bad)-1], api.Framer{B: bad[:len(bad)-1]})
			checkFeed(t, api.Framer{}, bad, dead)
			checkFeed(t, api.Framer{B: bad[:9]}, bad[9:], dead)
			checkFeed(t, api.Framer{}, append(bad, good...), dead)
		}
	}
	checkFeed(t, api.Framer{}, head(0, 1), dead)
	checkFeed(t, api.Framer{}, head(0, 1<<31), dead)
	checkFeed(t, api.Framer{}, turned(packed(filled(512)), 519, 1), dead)
}

// P3.2: a number that tells less, or more, than was packed: other bytes, another check.
func TestFeedOfAnotherNumber(t *testing.T) {
	dead := api.Framer{Dead: true}
	good := packed([]byte("news"))
	checkFeed(t, api.Framer{}, turned(good, 0, 1), api.Framer{B: turned(good, 0, 1)}) // 5 of 4
	checkFeed(t, api.Framer{}, append(turned(good, 0, 1), 0), dead)
	checkFeed(t, api.Framer{}, turned(good, 0, 4), dead)                              // 0 of 4
	checkFeed(t, api.Framer{}, turned(good, 0, 7), dead)                              // 3 of 4
	checkFeed(t, api.Framer{}, turned(good, 1, 1), api.Framer{B: turned(good, 1, 1)}) // 260 of 4
	checkFeed(t, api.Framer{}, turned(good, 1, 2), dead)                              // 516
	checkFeed(t, api.Framer{}, turned(good, 3, 128), dead)
}

// P3.2: all frames, in order, also ones of nothing; and what is left behind them.
func TestFeedOfMany(t *testing.T) {
	a, b, none := []byte("a"), []byte("and b"), []byte{}
	all := slices.Concat(packed(a), packed(none), packed(b), packed(none), packed(a))
	checkFeed(t, api.Framer{}, all, api.Framer{}, a, none, b, none, a)
	left := packed([]byte("later"))[:10]
	checkFeed(t, api.Framer{}, append(all, left...), api.Framer{B: left}, a, none, b, none, a)
	checkFeed(t, api.Framer{B: all}, left, api.Framer{B: left}, a, none, b, none, a)
	checkFeed(t, api.Framer{B: all}, nil, api.Framer{}, a, none, b, none, a)
	checkFeed(t, api.Framer{}, make([]byte, 24), api.Framer{}, none, none, none)
	checkFeed(t, api.Framer{}, make([]byte, 31), api.Framer{B: make([]byte, 7)}, none, none, none)
}

// P3.2, P3.3: frames ahead of a fault are told, none behind it, and nothing is left.
func TestFeedTellsWhatIsAheadOfAFault(t *testing.T) {
	dead := api.Framer{Dead: true}
	a, b := []byte("a"), filled(512)
	for _, bad := range [][]byte{head(513, 0), head(math.MaxUint32, 7), head(0, 1), turned(packed(a), 8, 2), turned(packed(b), 4, 64)} {
		all := slices.Concat(packed(a), packed(b), bad, packed(a))
		checkFeed(t, api.Framer{}, all, dead, a, b)
		checkFeed(t, api.Framer{B: all[:5]}, all[5:], dead, a, b)
		checkFeed(t, api.Framer{B: all}, nil, dead, a, b)
	}
}

// P3.2, P3.3: what is dead stays as it is, whatever comes, also with bytes of its own.
func TestTheDeadStaysSo(t *testing.T) {
	for _, had := range [][]byte{nil, {}, {1, 2, 3}, packed([]byte("a")), head(513, 0)} {
		f := api.Framer{B: had, Dead: true}
		for _, b := range streams() {
			checkFeed(t, f, b, f)
		}
	}
	f, _ := frame.Feed(api.Framer{}, head(513, 0))
	f, l := fedAll(f, packed([]byte("a")), nil, packed(nil))
	if !sameFramer(f, api.Framer{Dead: true}) || len(l) > 0 {
		t.Errorf("fed behind a fault: %v, %v", f, l)
	}
}

// P3.2: Same holds both parts against each other, bytes by what they are, nil or empty.
func TestSame(t *testing.T) {
	parts := [][]byte{nil, {}, {0}, {0, 0}, {1}, {0, 1}, {1, 0}, filled(512), turned(filled(512), 511, 1)}
	for i, x := range parts {
		for j, y := range parts {
			same := i == j || i < 2 && j < 2
			for n := range 4 {
				a, b := api.Framer{B: x, Dead: n&1 > 0}, api.Framer{B: bytes.Clone(y), Dead: n&2 > 0}
				if want := same && a.Dead == b.Dead; frame.Same(a, b) != want {
					t.Errorf("Same(%v, %v) is not %v", a, b, want)
				}
			}
		}
	}
}

// P3.3: cut in two, and in three, wherever that is, and byte by byte.
func TestFeedWhereverBytesAreCut(t *testing.T) {
	for _, b := range streams() {
		for i := range len(b) + 1 {
			checkCut(t, b, b[:i], b[i:])
			checkPlain(t, api.Framer{B: b[:i]}, b[i:])
			for j := i; j <= len(b) && len(b) < 100; j++ {
				checkCut(t, b, b[:i], b[i:j], b[j:])
			}
		}
		checkCut(t, b, slices.Collect(slices.Chunk(b, 1))...)
		checkCut(t, b, slices.Collect(slices.Chunk(b, 7))...)
	}
}

// P3.3: what is packed is one frame, and nothing is left of it.
func TestWhatIsPackedIsOneFrame(t *testing.T) {
	for n := range 513 {
		b := filled(n)
		p, is := frame.Pack(b)
		f, l := frame.Feed(api.Framer{}, p)
		if !is || !sameFrames(l, [][]byte{b}) || !frame.Same(f, api.Framer{}) {
			t.Fatalf("%v, packed: %v, %v", b, f, l)
		}
	}
}

// P3.2, P3.3, R1: any bytes, cut anyhow, behind any framer; the numbers come by a rule, the same each time.
func TestFeedOfAnyBytes(t *testing.T) {
	r := rand.New(rand.NewSource(3))
	for range 3000 {
		var b []byte
		for range r.Intn(6) {
			part := packed(filled(r.Intn(20)))
			switch r.Intn(8) {
			case 0:
				part = turned(part, r.Intn(len(part)), byte(r.Intn(256)))
			case 1:
				part = part[:r.Intn(len(part))]
			case 2:
				r.Read(part)
			}
			b = append(b, part...)
		}
		i := r.Intn(len(b) + 1)
		j := i + r.Intn(len(b)-i+1)
		checkCut(t, b, b[:i], b[i:j], b[j:])
		checkPlain(t, api.Framer{B: b[:i], Dead: r.Intn(9) == 0}, b[i:])
	}
}

// R3: what is handed in stays as it was, also what stands behind it.
func TestArgumentsStayAsTheyWere(t *testing.T) {
	had := append(packed([]byte("a")), "behind"...)
	come := append(packed([]byte("and b")), "behind"...)
	wasHad, wasCome := bytes.Clone(had), bytes.Clone(come)
	for n := range len(come) {
		frame.Pack(come[:n])
		frame.Feed(api.Framer{B: had[:9]}, come[:n])
		frame.Feed(api.Framer{B: had[:4], Dead: true}, come[:n])
		frame.Same(api.Framer{B: had[:9]}, api.Framer{B: come[:n]})
	}
	if !bytes.Equal(had, wasHad) || !bytes.Equal(come, wasCome) {
		t.Errorf("%v, %v became %v, %v", wasHad, wasCome, had, come)
	}
}

// spoil writes over bytes, and over all that one could append to them in place.
func spoil(b []byte) {
	b = b[:cap(b)]
	for i := range b {
		b[i] = 0xee
	}
}

// R3: later changes of what was handed in change no answer.
func TestAnswersDoNotHangOnArguments(t *testing.T) {
	a, late := []byte("a"), []byte("later")
	all := append(packed(a), late...)
	for _, dead := range []bool{false, true} {
		had, come := bytes.Clone(all[:3]), bytes.Clone(all[3:])
		f, l := frame.Feed(api.Framer{B: had, Dead: dead}, come)
		g, _ := frame.Feed(api.Framer{B: come}, nil)
		spoil(had)
		spoil(come)
		want, frames := plain(api.Framer{B: all[:3], Dead: dead}, all[3:])
		if !sameFramer(f, want) || !sameFrames(l, frames) {
			t.Errorf("dead %v: %v, %v, want %v, %v", dead, f, l, want, frames)
		}
		if only, _ := plain(api.Framer{B: all[3:]}, nil); !sameFramer(g, only) {
			t.Errorf("%v, want %v", g, only)
		}
	}
	b := []byte("news")
	p, _ := frame.Pack(b)
	spoil(b)
	if !bytes.Equal(p, packed([]byte("news"))) {
		t.Errorf("a pack became %v", p)
	}
}

// R3: later changes of one answer, or what is appended to it, change no other one, and no argument.
func TestAnswersShareNothing(t *testing.T) {
	parts := [][]byte{[]byte("a"), {}, []byte("and b"), filled(512)}
	left := []byte("later")
	var all []byte
	for _, b := range parts {
		all = append(all, packed(b)...)
	}
	all = append(all, left...)
	was := bytes.Clone(all)
	for i := range len(parts) + 1 {
		f, l := frame.Feed(api.Framer{B: all[:3]}, all[3:])
		lists := append(l, f.B)
		spoil(lists[i])
		for j, b := range append(slices.Clone(parts), left) {
			if j != i && !bytes.Equal(lists[j], b) {
				t.Errorf("%d changed, and %d became %v", i, j, lists[j])
			}
		}
	}
	f, _ := frame.Feed(api.Framer{B: all, Dead: true}, nil)
	spoil(f.B)
	p, _ := frame.Pack(all[8:9])
	spoil(p)
	if !bytes.Equal(all, was) {
		t.Errorf("%v became %v", was, all)
	}
}

// R5: what was asked before changes nothing.
func TestNothingHangsOnWhatWasAsked(t *testing.T) {
	for _, b := range streams() {
		want, frames := frame.Feed(api.Framer{}, b)
		for _, other := range streams() {
			frame.Pack(other)
			frame.Feed(api.Framer{}, other)
		}
		if got, l := frame.Feed(api.Framer{}, b); !sameFramer(got, want) || !sameFrames(l, frames) {
			t.Errorf("Feed of %v: %v, %v; again %v, %v", b, want, frames, got, l)
		}
	}
}
