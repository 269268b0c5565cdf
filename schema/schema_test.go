package schema_test

import (
	"bytes"
	"encoding/binary"
	"math"
	"math/rand"
	"slices"
	"strings"
	"testing"

	"towncrier/api"
	"towncrier/schema"
)

// made is a schema of fields that are called f0, f1 and so on, of these kinds.
func made(name string, ver int, kinds ...int) api.Schema {
	s := api.Schema{Name: name, Ver: ver}
	for i, kind := range kinds {
		s.F = append(s.F, api.Field{Name: "f" + string(rune('0'+i)), Kind: kind})
	}
	return s
}

func field(name string, kind int) api.Field {
	return api.Field{Name: name, Kind: kind}
}

// clone is a schema that shares no field with the one it is like.
func clone(s api.Schema) api.Schema {
	s.F = slices.Clone(s.F)
	return s
}

// isName is Name by the document's words.
func isName(s string) bool {
	const first, other = "abcdefghijklmnopqrstuvwxyz", "0123456789_"
	if len(s) < 1 || len(s) > 12 || strings.IndexByte(first, s[0]) < 0 {
		return false
	}
	for i := range len(s) {
		if strings.IndexByte(first+other, s[i]) < 0 {
			return false
		}
	}
	return true
}

// may is May by the document's words.
func may(s api.Schema) bool {
	names := map[string]int{}
	for _, f := range s.F {
		names[f.Name]++
		if !isName(f.Name) || names[f.Name] > 1 || f.Kind < 0 || f.Kind > 3 {
			return false
		}
	}
	return isName(s.Name) && s.Ver >= 1 && s.Ver <= 1000 && len(s.F) <= 6
}

// same is Same by the document's words.
func same(a, b api.Schema) bool {
	if a.Name != b.Name || a.Ver != b.Ver || len(a.F) != len(b.F) {
		return false
	}
	for i := range a.F {
		if a.F[i].Name != b.F[i].Name || a.F[i].Kind != b.F[i].Kind {
			return false
		}
	}
	return true
}

// fits is Fits by the document's words.
func fits(old, next api.Schema) bool {
	if !may(old) || !may(next) || old.Name != next.Name || next.Ver-1 != old.Ver || len(next.F) < len(old.F) {
		return false
	}
	next.Ver, next.F = old.Ver, next.F[:len(old.F)]
	return same(old, next)
}

// put is Put by the document's words.
func put(s api.Schema) ([]byte, bool) {
	if !may(s) {
		return nil, false
	}
	b := text(nil, s.Name)
	b = binary.AppendUvarint(b, uint64(s.Ver))
	b = binary.AppendUvarint(b, uint64(len(s.F)))
	for _, f := range s.F {
		b = append(text(b, f.Name), byte(f.Kind))
	}
	return b, true
}

func text(b []byte, s string) []byte {
	return append(binary.AppendUvarint(b, uint64(len(s))), s...)
}

// get is Get by the document's words: what bytes might tell, if they begin by what is put of that.
func get(b []byte) (api.Schema, int, bool) {
	s := guess(b)
	if p, is := put(s); is && bytes.HasPrefix(b, p) {
		return s, len(p), true
	}
	return api.Schema{}, 0, false
}

// guess is the one schema that bytes might tell; it stops where they end.
func guess(b []byte) api.Schema {
	number := func() int {
		n, used := binary.Uvarint(b)
		b = b[max(used, 0):]
		return int(min(n, 2000))
	}
	name := func() string {
		n := min(number(), len(b))
		s := string(b[:n])
		b = b[n:]
		return s
	}
	s := api.Schema{Name: name(), Ver: number()}
	for range number() {
		f := api.Field{Name: name()}
		if len(b) == 0 {
			break
		}
		f.Kind = int(b[0])
		b = b[1:]
		s.F = append(s.F, f)
	}
	return s
}

// good are schemas that may be, the edges among them.
func good() []api.Schema {
	l := []api.Schema{
		{Name: "a", Ver: 1},
		{Name: "a", Ver: 1, F: []api.Field{}},
		{Name: "b", Ver: 1},
		{Name: "z9_", Ver: 2},
		{Name: "abcdefghijkl", Ver: 1000},
		{Name: "a___________", Ver: 3},
		{Name: "a", Ver: 1, F: []api.Field{field("a", 0)}}, // a field may be called as the schema is
		{Name: "ab", Ver: 1, F: []api.Field{field("a", 0), field("b", 0)}},
		{Name: "ab", Ver: 1, F: []api.Field{field("b", 0), field("a", 0)}},
		{Name: "ab", Ver: 1, F: []api.Field{field("a", 0), field("aa", 0), field("a_", 0), field("a0", 0)}},
		{Name: "full", Ver: 999, F: []api.Field{field("abcdefghijkl", 3), field("abcdefghijkm", 2), field("abcdefghijk", 1), field("x_1", 0), field("y", 3), field("z", 3)}},
	}
	for _, ver := range []int{1, 2, 10, 126, 127, 128, 129, 255, 256, 257, 300, 999, 1000} {
		l = append(l, made("v", ver), made("v", ver, 0, 3), made("v", ver, 0, 1, 2, 3, 2, 1))
	}
	for n := range 7 {
		for kind := range 4 {
			l = append(l, made("some", 7, slices.Repeat([]int{kind}, n)...))
		}
	}
	return l
}

// badNames are texts that are no names.
func badNames() []string {
	return []string{
		"", "A", "aB", "Z", "0", "9a", "_", "_a", "-", "a-b", "a b", " a", "a ", "a.b", "a\x00", "\x00", "a\n", "\ta",
		"`", "{", "a`", "a{", "a/", "a:", "a^", "a@", "a[",
		"abcdefghijklm", strings.Repeat("a", 13), strings.Repeat("a", 24), strings.Repeat("a", 255), strings.Repeat("a", 256), strings.Repeat("a", 257), strings.Repeat("a", 1000),
		"é", "aé", "éa", "š", "aš", "ａ", "aａ", "а", "a٠", "a１", "a\u0301", "ⓐ",
		"\xff", "a\xff", "a\x80", "\xe1", "a\xc3", "a\xc3\xa9", "a\ufffd", "abcdefghijk\xc3", "\xed\xa0\x80",
	}
}

// badSchemas are schemas that may not be.
func badSchemas() []api.Schema {
	l := []api.Schema{
		{},
		{Name: "a"},
		{Ver: 1},
		made("seven", 1, 0, 0, 0, 0, 0, 0, 0),
		made("eight", 1, 0, 1, 2, 3, 0, 1, 2, 3),
		{Name: "a", Ver: 1, F: make([]api.Field, 1)},
		{Name: "a", Ver: 1, F: make([]api.Field, 1000)},
		{Name: "a", Ver: 1, F: []api.Field{field("x", 0), field("x", 0)}},
		{Name: "a", Ver: 1, F: []api.Field{field("x", 0), field("x", 1)}},
	}
	for _, ver := range []int{0, -1, -2, 1001, 1002, 1 << 16, 1<<32 + 1, math.MaxInt, math.MinInt, math.MinInt + 1} {
		l = append(l, made("a", ver), made("a", ver, 0))
	}
	for _, kind := range []int{-1, 4, 5, 255, 256, 257, 1 << 32, math.MaxInt, math.MinInt} {
		for i := range 6 {
			kinds := make([]int, 6)
			kinds[i] = kind
			l = append(l, made("a", 1, kinds...), made("a", 1, kinds[:i+1]...))
		}
	}
	for _, name := range badNames() {
		l = append(l, made(name, 1), made(name, 1, 0, 1))
		for i := range 6 {
			s := made("a", 1, 0, 1, 2, 3, 0, 1)
			s.F[i].Name = name
			l = append(l, s)
		}
	}
	for i := range 6 {
		for j := range i {
			s := made("a", 1, 0, 1, 2, 3, 0, 1)
			s.F[i].Name = s.F[j].Name
			l = append(l, s)
		}
	}
	return l
}

func all() []api.Schema {
	return append(good(), badSchemas()...)
}

func isNone(s api.Schema, n int, is bool) bool {
	return s.Name == "" && s.Ver == 0 && len(s.F) == 0 && n == 0 && !is
}

// P5.1: names, written out, at both ends of how long one is.
func TestNameExamples(t *testing.T) {
	for _, s := range []string{"a", "z", "m", "aa", "a0", "a9", "a_", "a__", "z9_a", "town_crier", "abcdefghijkl", "a12345678901", "a___________", "zzzzzzzzzzzz"} {
		if !schema.Name(s) {
			t.Errorf("Name(%q) = false", s)
		}
	}
	for _, s := range badNames() {
		if schema.Name(s) {
			t.Errorf("Name(%q) = true", s)
		}
	}
}

// P5.1: each byte, and each sign of more bytes than one, at each place of a name of each size.
func TestNameOfEachSign(t *testing.T) {
	var signs []string
	for x := range 256 {
		signs = append(signs, string([]byte{byte(x)}))
	}
	for _, low := range "az09_" { // signs that end like those of a name
		for high := 1; high <= 0x10; high++ {
			signs = append(signs, string(low+rune(high)<<8), string(low+rune(high)<<16))
		}
	}
	for size := range 14 {
		for i := range size {
			for _, sign := range signs {
				checkName(t, strings.Repeat("a", i)+sign+strings.Repeat("z", size-i-1))
			}
		}
	}
}

func checkName(t *testing.T, s string) {
	t.Helper()
	if got, want := schema.Name(s), isName(s); got != want {
		t.Fatalf("Name(%q) = %v, want %v", s, got, want)
	}
}

// P5.1: a schema may be, if its name, its version, its fields and their number are all right.
func TestMay(t *testing.T) {
	for _, s := range good() {
		if !schema.May(s) {
			t.Errorf("May(%v) = false", s)
		}
	}
	for _, s := range badSchemas() {
		if schema.May(s) {
			t.Errorf("May(%v) = true", s)
		}
	}
	for ver := -3; ver < 1100; ver++ {
		for kind := -2; kind < 7; kind++ {
			s := made("a", ver, 0, kind)
			if got, want := schema.May(s), may(s); got != want {
				t.Errorf("May(%v) = %v, want %v", s, got, want)
			}
		}
	}
}

// P5.1: Same holds all parts against each other, whether they may be or not; fields in order, none or an empty list.
func TestSame(t *testing.T) {
	for i, a := range all() {
		for j, b := range all() {
			if got, want := schema.Same(a, clone(b)), same(a, b); got != want || i == j && !got {
				t.Fatalf("Same(%v, %v) = %v, want %v", a, b, got, want)
			}
		}
	}
}

// P5.1: Same where just one part differs, or fields stand in another order, or one has some more.
func TestSameOfAlmostTheSame(t *testing.T) {
	a := made("a", 5, 0, 1, 2, 3, 0, 1)
	for i := range a.F {
		name, kind, less, turned := clone(a), clone(a), clone(a), clone(a)
		name.F[i].Name = "other"
		kind.F[i].Kind++
		less.F = slices.Delete(less.F, i, i+1)
		turned.F[i], turned.F[(i+1)%6] = turned.F[(i+1)%6], turned.F[i]
		short := clone(a)
		short.F = short.F[:i]
		for _, b := range []api.Schema{name, kind, less, turned, short, {Name: "b", Ver: 5, F: a.F}, {Name: "a", Ver: 6, F: a.F}} {
			if schema.Same(a, b) || schema.Same(b, a) {
				t.Errorf("Same(%v, %v) = true", a, b)
			}
		}
	}
	if !schema.Same(a, clone(a)) || !schema.Same(api.Schema{}, api.Schema{F: []api.Field{}}) {
		t.Error("two that are the same are not")
	}
}

// P5.1: Fits, written out.
func TestFitsExamples(t *testing.T) {
	x, y, z := field("x", 0), field("y", 1), field("z", 2)
	of := func(name string, ver int, l ...api.Field) api.Schema {
		return api.Schema{Name: name, Ver: ver, F: l}
	}
	for i, c := range []struct {
		old, next api.Schema
		want      bool
	}{
		{of("a", 1), of("a", 2), true},
		{of("a", 1), of("a", 2, x), true},
		{of("a", 1, x), of("a", 2, x), true},
		{of("a", 1, x), of("a", 2, x, y), true},
		{of("a", 1, x), of("a", 2, x, y, z), true},
		{of("a", 1, x, y), of("a", 2, x, y, z), true},
		{of("a", 999, x), of("a", 1000, x, y), true},
		{of("a", 1, x, y), of("a", 2, x), false}, // a field less
		{of("a", 1, x), of("a", 2), false},
		{of("a", 1, x, y), of("a", 2, y, x), false},       // another order
		{of("a", 1, x), of("a", 2, y, x), false},          // not from the first one on
		{of("a", 1, x, y), of("a", 2, x, z, y), false},    // one between
		{of("a", 1, x), of("a", 2, field("x", 1)), false}, // another kind
		{of("a", 1, x), of("a", 2, field("w", 0)), false}, // another name
		{of("a", 1, x, y), of("a", 2, x, field("y", 2), z), false},
		{of("a", 1), of("b", 2), false}, // another schema
		{of("a", 1), of("ab", 2), false},
		{of("a", 1, x), of("a", 1, x), false}, // the same version
		{of("a", 1, x), of("a", 3, x), false}, // one left out
		{of("a", 2, x), of("a", 1, x), false}, // the version ahead
		{of("a", 1000, x), of("a", 1001, x), false},
		{of("a", 1000, x), of("a", 1, x), false},
		{of("a", 0, x), of("a", 1, x), false},
		{of("a", math.MaxInt), of("a", math.MinInt), false},
		{of("A", 1), of("A", 2), false},
		{of("", 1), of("", 2), false},
		{of("a", 1, field("x", 4)), of("a", 2, field("x", 4)), false},
		{of("a", 1, x, x), of("a", 2, x, x), false},
		{of("a", 1, x), of("a", 2, x, x), false},
		{of("a", 1, x), of("a", 2, x, field("", 0)), false},
		{made("a", 1, 0, 0, 0, 0, 0, 0), made("a", 2, 0, 0, 0, 0, 0, 0), true},
		{made("a", 1, 0, 0, 0, 0, 0), made("a", 2, 0, 0, 0, 0, 0, 0), true},
		{made("a", 1, 0, 0, 0, 0, 0, 0), made("a", 2, 0, 0, 0, 0, 0, 0, 0), false},
	} {
		if got := schema.Fits(c.old, c.next); got != c.want {
			t.Errorf("%d: Fits(%v, %v) = %v", i, c.old, c.next, got)
		}
	}
}

// P5.1: Fits is what the document's words say, of all pairs, and of each one with its next version.
func TestFits(t *testing.T) {
	l := all()
	for _, a := range all() {
		next := clone(a)
		next.Ver++
		checkFits(t, a, next)
		for n := range len(a.F) {
			less := api.Schema{Name: a.Name, Ver: a.Ver - 1, F: a.F[:n]}
			checkFits(t, less, a)
			checkFits(t, a, api.Schema{Name: a.Name, Ver: a.Ver + 1, F: a.F[:n]})
		}
		for _, b := range l {
			checkFits(t, a, b)
			b.Name, b.Ver = a.Name, a.Ver+1
			checkFits(t, a, b)
		}
	}
}

func checkFits(t *testing.T, old, next api.Schema) {
	t.Helper()
	if got, want := schema.Fits(old, next), fits(old, next); got != want {
		t.Fatalf("Fits(%v, %v) = %v, want %v", old, next, got, want)
	}
}

// P5.2: the document's example, and some more, written out.
func TestPutExamples(t *testing.T) {
	for _, c := range []struct {
		s    api.Schema
		want []byte
	}{
		{made("a", 1), []byte{1, 97, 1, 0}},
		{api.Schema{Name: "a", Ver: 1, F: []api.Field{}}, []byte{1, 97, 1, 0}},
		{made("ab", 127), []byte{2, 97, 98, 127, 0}},
		{made("a", 128), []byte{1, 97, 128, 1, 0}},
		{made("a", 1000), []byte{1, 97, 232, 7, 0}},
		{made("a", 1, 3), []byte{1, 97, 1, 1, 2, 'f', '0', 3}},
		{made("a", 300, 0, 1, 2, 3), []byte{1, 97, 172, 2, 4, 2, 'f', '0', 0, 2, 'f', '1', 1, 2, 'f', '2', 2, 2, 'f', '3', 3}},
		{api.Schema{Name: "abcdefghijkl", Ver: 1, F: []api.Field{field("a", 2), field("b_0123456789", 0)}},
			[]byte("\x0cabcdefghijkl\x01\x02\x01a\x02\x0cb_0123456789\x00")},
	} {
		if got, is := schema.Put(c.s); !is || !bytes.Equal(got, c.want) {
			t.Errorf("Put(%v) = %v, %v, want %v", c.s, got, is, c.want)
		}
	}
}

// P5.2: Put is what the document's words say, of all that may be, and nothing and false of all else.
func TestPut(t *testing.T) {
	for _, s := range all() {
		checkPut(t, s)
	}
	r := rand.New(rand.NewSource(5))
	for range 20000 {
		checkPut(t, someSchema(r))
	}
}

func checkPut(t *testing.T, s api.Schema) {
	t.Helper()
	got, is := schema.Put(s)
	want, may := put(s)
	if is != may || !bytes.Equal(got, want) {
		t.Fatalf("Put(%v) = %v, %v, want %v, %v", s, got, is, want, may)
	}
}

// someSchema is one that mostly may be, but not always.
func someSchema(r *rand.Rand) api.Schema {
	s := api.Schema{Name: someName(r), Ver: 1 + r.Intn(1000)}
	if r.Intn(12) == 0 {
		s.Ver = r.Intn(3000) - 1000
	}
	for range r.Intn(7) + r.Intn(20)/19 {
		s.F = append(s.F, api.Field{Name: someName(r), Kind: r.Intn(4) + r.Intn(40)/39})
	}
	return s
}

func someName(r *rand.Rand) string {
	const signs = "abcdefghijklmnopqrstuvwxyz0123456789_"
	b := []byte{signs[r.Intn(26)]}
	for range r.Intn(12) {
		b = append(b, signs[r.Intn(len(signs))])
	}
	if r.Intn(60) == 0 {
		b[r.Intn(len(b))] = byte(r.Intn(256))
	}
	return string(b)
}

// P5.2, P5.3: what is put is got, alone and whatever stands behind it; no shorter piece of it is one.
func TestGetOfPut(t *testing.T) {
	for _, s := range good() {
		b, _ := schema.Put(s)
		for _, tail := range [][]byte{nil, {0}, {1}, {127}, {128}, {255}, b, bytes.Repeat([]byte{255}, 99), make([]byte, 99)} {
			long := slices.Concat(b, tail)
			if got, n, is := schema.Get(long); !is || n != len(b) || !same(got, s) {
				t.Errorf("Get(%v) = %v, %d, %v, want %v, %d", long, got, n, is, s, len(b))
			}
		}
		for i := range b {
			if got, n, is := schema.Get(b[:i]); !isNone(got, n, is) {
				t.Errorf("Get(%v) = %v, %d, %v, want noughts", b[:i], got, n, is)
			}
		}
	}
}

// P5.2: bytes by which no schema that may be is put are none: noughts and false.
func TestGetNone(t *testing.T) {
	most := strings.Repeat("\xff", 9) + "\x01" // 2^64 - 1
	wrap := "\x81" + strings.Repeat("\x80", 8) + "\x01"
	for _, b := range []string{
		"",
		"\x00",
		"\x00\x01\x00",              // a name of nothing
		"\x01a",                     // nothing behind the name
		"\x01a\x01",                 // no number of fields
		"\x02a",                     // too few bytes of a name
		"\x01A\x01\x00",             // no name
		"\x020a\x01\x00",            // so here
		"\x02a\xff\x01\x00",         // and here
		"\x0dabcdefghijklm\x01\x00", // a name of 13
		"\x0d",
		"\x81\x00a\x01\x00",                      // the same number has fewer groups
		"\x01a\x81\x00\x00",                      // so has the version's
		"\x01a\x01\x80\x00",                      // so has the number of fields
		"\x01a\x01\x01\x81\x00b\x00",             // and that of a field's name
		"\x80",                                   // more is told, and none comes
		"\x01a\x80",                              // so here
		"\x01a\x00\x00",                          // version 0
		"\x01a\xe9\x07\x00",                      // version 1001
		"\x01a\x81\x80\x04\x00",                  // 2^16 + 1
		"\x01a\x81\x80\x80\x80\x10\x00",          // 2^32 + 1
		"\x01a" + wrap + "\x00",                  // 2^63 + 1
		"\x01a" + most + "\x00",                  // 2^64 - 1
		most + "a\x01\x00",                       // so many bytes of a name
		wrap + "a\x01\x00",                       // 2^63 + 1 of them
		"\x81\x80\x80\x80\x10a\x01\x00",          // 2^32 + 1 of them
		"\x81\x02a\x01\x00",                      // 257 of them
		"\x01a\x01" + most,                       // so many fields
		"\x01a\x01\x80\x02",                      // 256 of them
		"\x01a\x01" + wrap + "\x01b\x00",         // 2^63 + 1 of them
		"\x01a\x01\x81\x80\x80\x80\x10\x01b\x00", // 2^32 + 1 of them
		"\x01a\x01\x01",                          // no field
		"\x01a\x01\x01\x01b",                     // no kind
		"\x01a\x01\x01\x01b\x04",                 // kind 4
		"\x01a\x01\x01\x01b\xff",                 // kind 255
		"\x01a\x01\x01\x01b\x80\x00",             // a kind is a byte, not groups
		"\x01a\x01\x01\x00\x00",                  // a field of no name
		"\x01a\x01\x01\x01B\x00",                 // so here
		"\x01a\x01\x01\x0dabcdefghijklm\x00",     // a field's name of 13
		"\x01a\x01\x01" + most + "b\x00",         // so many bytes of it
		"\x01a\x01\x02\x01b\x00",                 // one field of two
		"\x01a\x01\x02\x01b\x00\x01b\x01",        // two fields of a name
		"\x01a\x01\x06\x01b\x00\x01c\x00\x01d\x00\x01e\x00\x01f\x00\x01b\x00",
		"\x01a\x01\x07\x01b\x00\x01c\x00\x01d\x00\x01e\x00\x01f\x00\x01g\x00\x01h\x00", // seven fields
		"\xff\xff\xff",
	} {
		if got, n, is := schema.Get([]byte(b)); !isNone(got, n, is) {
			t.Errorf("Get(%q) = %v, %d, %v, want noughts", b, got, n, is)
		}
	}
}

// checkGet holds Get against the document's words, and against Put: what is got is put as just these bytes.
func checkGet(t *testing.T, b []byte) {
	t.Helper()
	before := bytes.Clone(b)
	s, n, is := schema.Get(b)
	want, m, there := get(before)
	if !same(s, want) || n != m || is != there {
		t.Fatalf("Get(%v) = %v, %d, %v, want %v, %d, %v", before, s, n, is, want, m, there)
	}
	if !bytes.Equal(b, before) {
		t.Fatalf("Get(%v) changed them to %v", before, b)
	}
	if p, may := schema.Put(s); is && (!may || !bytes.Equal(p, before[:n])) {
		t.Fatalf("Get(%v) = %v, of which Put is %v, %v", before, s, p, may)
	}
}

// P5.2: Get is what the document's words say, of many bytes that look like a schema's.
func TestGet(t *testing.T) {
	checkGet(t, nil)
	signs := []byte{0, 1, 2, 3, 4, 'a', 'b', 128}
	var grow func(b []byte)
	grow = func(b []byte) {
		checkGet(t, b)
		for _, x := range signs {
			if len(b) < 9 {
				grow(append(b[:len(b):len(b)], x))
			}
		}
	}
	for _, head := range []string{"\x01a", "\x01a\x01\x01", "\x01a\x01\x02\x01a"} {
		for _, x := range signs {
			for _, y := range signs {
				grow(append([]byte(head), x, y))
			}
		}
	}
	r := rand.New(rand.NewSource(51))
	for range 50000 {
		b := make([]byte, r.Intn(40))
		for i := range b {
			b[i] = "\x00\x01\x01\x01\x02\x03\x04\x06\x07\x0c\x0dabcz09_A\x80\x81\xff"[r.Intn(22)]
		}
		checkGet(t, b)
	}
}

// P5.2: one byte more, less, or other than Put's is got by the document's words too.
func TestGetOfAlmostPut(t *testing.T) {
	for _, s := range good() {
		b, _ := schema.Put(s)
		for i := range b {
			for bit := range 8 {
				c := bytes.Clone(b)
				c[i] ^= 1 << bit
				checkGet(t, c)
			}
			checkGet(t, slices.Delete(bytes.Clone(b), i, i+1))
			for _, x := range []byte{0, 1, 'a', 128} {
				checkGet(t, slices.Insert(bytes.Clone(b), i, x))
			}
		}
	}
}

// P5.3: two that are not the same are put unlike, and neither one's bytes are a beginning of the other one's.
func TestPutApart(t *testing.T) {
	for i, a := range good() {
		for j, b := range good() {
			p, _ := schema.Put(a)
			q, _ := schema.Put(b)
			if like := bytes.HasPrefix(p, q); like != same(a, b) {
				t.Errorf("%d and %d: %v of %v, %v of %v", i, j, p, a, q, b)
			}
		}
	}
}

// P5.3: what fits one that fits has all its fields, too, however many versions lie between.
func TestFitsOfFits(t *testing.T) {
	r := rand.New(rand.NewSource(53))
	for range 3000 {
		first := someSchema(r)
		first.Ver = 1 + r.Intn(990)
		chain := []api.Schema{first}
		for range 8 {
			last := chain[len(chain)-1]
			next := clone(last)
			next.Ver++
			switch r.Intn(4) {
			case 0:
				next.F = append(next.F, api.Field{Name: someName(r), Kind: r.Intn(4)})
			case 1:
				r.Shuffle(len(next.F), func(i, j int) { next.F[i], next.F[j] = next.F[j], next.F[i] })
			case 2:
				next.F = next.F[:r.Intn(len(next.F)+1)]
			}
			if !schema.Fits(last, next) {
				checkFits(t, last, next)
				continue
			}
			chain = append(chain, next)
			for _, old := range chain {
				if len(old.F) > len(next.F) || !slices.Equal(old.F, next.F[:len(old.F)]) {
					t.Fatalf("%v fits in the end behind %v", next, old)
				}
			}
		}
	}
}

// R3: what is handed in stays as it was, also what stands behind it.
func TestArgumentsStayAsTheyWere(t *testing.T) {
	for _, s := range all() {
		room := append(slices.Clone(s.F), field("behind", 1), field("again", 2))
		was := slices.Clone(room)
		a := api.Schema{Name: s.Name, Ver: s.Ver, F: room[:len(s.F)]}
		b := api.Schema{Name: s.Name, Ver: s.Ver + 1, F: room[:len(s.F)+1]}
		schema.May(a)
		schema.Fits(a, b)
		schema.Same(a, b)
		schema.Put(a)
		if !slices.Equal(room, was) {
			t.Errorf("%v became %v", was, room)
		}
	}
}

// R3: what is answered is the caller's own, and does not hang on what was handed in.
func TestAnswersAreOwn(t *testing.T) {
	for _, s := range good() {
		b, _ := schema.Put(s)
		kept := bytes.Clone(b)
		got, _, _ := schema.Get(b)
		other, _, _ := schema.Get(b)
		spoil(b)
		clear(other.F[:cap(other.F)])
		if !same(got, s) {
			t.Errorf("%v became %v", s, got)
		}
		if again, _ := schema.Put(got); !bytes.Equal(again, kept) {
			t.Errorf("Put(%v) = %v, when an earlier answer was changed", got, again)
		}
	}
}

// spoil changes all bytes of a list, and all that it has room for.
func spoil(b []byte) {
	b = b[:cap(b)]
	for i := range b {
		b[i] ^= 85
	}
}

// R5: what was asked before changes nothing.
func TestNothingKept(t *testing.T) {
	for range 3 {
		for _, s := range all() {
			checkPut(t, s)
			checkName(t, s.Name)
			b, _ := schema.Put(s)
			checkGet(t, b)
			if got, want := schema.May(s), may(s); got != want {
				t.Errorf("May(%v) = %v, want %v", s, got, want)
			}
		}
	}
}

// R1: long names, many fields and many bytes, of which few are taken.
func TestLongArguments(t *testing.T) {
	long := strings.Repeat("a", 1<<20)
	many := api.Schema{Name: "a", Ver: 1, F: slices.Repeat([]api.Field{field("x", 0)}, 1<<18)}
	if schema.Name(long) || schema.May(many) || schema.May(made(long, 1)) || !schema.Same(many, clone(many)) {
		t.Error("long ones are told wrongly")
	}
	b, _ := schema.Put(made("a", 1, 2))
	if s, n, is := schema.Get(append(b, long...)); !is || n != len(b) || !same(s, made("a", 1, 2)) {
		t.Errorf("got %v, %d, %v", s, n, is)
	}
	if s, n, is := schema.Get([]byte(long)); !isNone(s, n, is) {
		t.Errorf("got %v, %d, %v", s, n, is)
	}
}
