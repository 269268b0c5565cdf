package registry_test

import (
	"math"
	"math/rand"
	"slices"
	"strings"
	"testing"

	"towncrier/api"
	"towncrier/registry"
	"towncrier/schema"
)

// made is a schema of fields that are called f0, f1 and so on, of these kinds.
func made(name string, ver int, kinds ...int) api.Schema {
	s := api.Schema{Name: name, Ver: ver}
	for i, kind := range kinds {
		s.F = append(s.F, api.Field{Name: "f" + string(rune('0'+i)), Kind: kind})
	}
	return s
}

// list is so many schemas that may be, each of a name of its own.
func list(n int) []api.Schema {
	var l []api.Schema
	for i := range n {
		l = append(l, made(string(rune('a'+i)), 1+i*3, 0, 1, 2, 3)) // a has version 1, b 4, c 7
	}
	return l
}

// clone is a schema that shares no field with the one it is like.
func clone(s api.Schema) api.Schema {
	s.F = slices.Clone(s.F)
	return s
}

// cloneAll is a list that shares nothing with the one it is like.
func cloneAll(l []api.Schema) []api.Schema {
	var copied []api.Schema
	for _, s := range l {
		copied = append(copied, clone(s))
	}
	return copied
}

// with is a list with one of its schemas changed.
func with(l []api.Schema, i int, s api.Schema) []api.Schema {
	l = cloneAll(l)
	l[i] = s
	return l
}

// may is May by the document's words.
func may(l []api.Schema) bool {
	names := map[string]int{}
	for _, s := range l {
		names[s.Name]++
		if !schema.May(s) || names[s.Name] > 1 {
			return false
		}
	}
	return len(l) <= 8
}

// find is Find by the document's words.
func find(l []api.Schema, name string) (api.Schema, bool) {
	for _, s := range l {
		if s.Name == name {
			return s, true
		}
	}
	return api.Schema{}, false
}

// add is Add by the document's words.
func add(l []api.Schema, s api.Schema) ([]api.Schema, api.Errno) {
	if !may(l) || !schema.May(s) {
		return nil, api.ErrArg
	}
	old, is := find(l, s.Name)
	if is && schema.Same(old, s) {
		return nil, api.ErrHave
	}
	if is && !schema.Fits(old, s) || !is && s.Ver != 1 {
		return nil, api.ErrType
	}
	if !is && len(l) == 8 {
		return nil, api.ErrFull
	}
	var next []api.Schema
	for _, x := range l {
		if x.Name == s.Name {
			x = s
		}
		next = append(next, x)
	}
	if !is {
		next = append(next, s)
	}
	return next, api.OK
}

// same is Same by the document's words.
func same(a, b []api.Schema) bool {
	if len(a) != len(b) {
		return false
	}
	for i := range a {
		if !schema.Same(a[i], b[i]) {
			return false
		}
	}
	return true
}

// good are lists that may be, the edges among them.
func good() [][]api.Schema {
	l := [][]api.Schema{
		nil,
		{},
		{made("a", 1)},
		{{Name: "a", Ver: 1, F: []api.Field{}}},
		{made("a", 1, 2)},
		{made("a", 1000, 0, 0, 0, 0, 0, 0)},
		{made("a", 1), made("aa", 1), made("a_", 1), made("a0", 1)},
		{made("abcdefghijkl", 1), made("abcdefghijkm", 1), made("abcdefghijk", 1)},
		{made("b", 2), made("a", 1)},
		{made("a", 1), made("b", 2)},
		{made("a", 2), made("b", 2)},
		{made("a", 999, 0, 1), made("b", 1000, 0, 1), made("c", 1)},
		{{Name: "a", Ver: 1, F: []api.Field{{Name: "a"}, {Name: "b"}}}, {Name: "b", Ver: 1, F: []api.Field{{Name: "a"}, {Name: "b"}}}},
	}
	for n := range 9 {
		l = append(l, list(n))
	}
	return l
}

// badSchemas are schemas that may not be.
func badSchemas() []api.Schema {
	return []api.Schema{
		{},
		{Ver: 1},
		made("A", 1),
		made("", 1),
		made("abcdefghijklm", 1),
		made("a", 0),
		made("a", -1),
		made("a", 1001),
		made("a", math.MinInt),
		made("a", math.MaxInt),
		made("a", 1, 0, 0, 0, 0, 0, 0, 0),
		made("a", 1, 4),
		made("a", 1, -1),
		made("z", 2, 0, 4),
		{Name: "a", Ver: 1, F: []api.Field{{Name: "x"}, {Name: "x", Kind: 1}}},
		{Name: "a", Ver: 1, F: []api.Field{{Name: ""}}},
	}
}

// badLists are lists that may not be: one that may not be at each place, two of a name at any two places, and too many.
func badLists() [][]api.Schema {
	l := [][]api.Schema{list(9), list(10), list(26), make([]api.Schema, 9), slices.Repeat(list(1), 9)}
	for n := 1; n <= 8; n++ {
		for i := range n {
			for _, bad := range badSchemas() {
				l = append(l, with(list(n), i, bad))
			}
			for j := range i {
				same, next, other := list(n), list(n), list(n)
				same[i] = clone(same[j])
				next[i] = made(next[j].Name, next[j].Ver+1, 0, 1, 2, 3)
				other[i].Name = other[j].Name
				l = append(l, same, next, other)
			}
		}
	}
	return l
}

func all() [][]api.Schema {
	return append(good(), badLists()...)
}

// offered are schemas that might be added to a list: those it has, those that go on with them or do not, new ones, and some that may not be.
func offered(l []api.Schema) []api.Schema {
	o := append(badSchemas(), made("a", 1), made("new", 1), made("new", 1, 3, 2), made("new", 2), made("new", 3, 0), made("new", 999), made("new", 1000))
	for _, s := range l {
		o = append(o, s)
		for _, up := range []int{-1, 0, 1, 2} {
			next := clone(s)
			next.Ver += up
			more, less, other, turned := clone(next), clone(next), clone(next), clone(next)
			more.F = append(more.F, api.Field{Name: "more", Kind: 1})
			less.F = less.F[:len(less.F)/2]
			if len(s.F) > 1 {
				other.F[0].Kind = 3 - other.F[0].Kind
				turned.F[0], turned.F[1] = turned.F[1], turned.F[0]
			}
			o = append(o, next, more, less, other, turned, api.Schema{Name: s.Name + "x", Ver: next.Ver, F: next.F})
		}
		o = append(o, made(s.Name, 1), made(s.Name, 1000))
	}
	return o
}

func checkFind(t *testing.T, l []api.Schema, name string) {
	t.Helper()
	got, is := registry.Find(l, name)
	want, there := find(l, name)
	if !schema.Same(got, want) || is != there {
		t.Fatalf("Find(%v, %q) = %v, %v, want %v, %v", l, name, got, is, want, there)
	}
}

func checkAdd(t *testing.T, l []api.Schema, s api.Schema) []api.Schema {
	t.Helper()
	got, why := registry.Add(l, s)
	want, because := add(l, s)
	if !same(got, want) || why != because {
		t.Fatalf("Add(%v, %v) = %v, %v, want %v, %v", l, s, got, why, want, because)
	}
	return got
}

// P7.1: a list may be, if all of it may, no two are of a name, and they are at most 8.
func TestMay(t *testing.T) {
	for _, l := range good() {
		if !registry.May(l) {
			t.Errorf("May(%v) = false", l)
		}
	}
	for _, l := range badLists() {
		if registry.May(l) {
			t.Errorf("May(%v) = true", l)
		}
	}
}

// P7.1: how many there are, written out.
func TestMayOfEachSize(t *testing.T) {
	for n := range 27 {
		if got := registry.May(list(n)); got != (n <= 8) {
			t.Errorf("May of %d = %v", n, got)
		}
	}
}

// P7.1: Find, written out: the first one of a name, of a list that may be or not.
func TestFindExamples(t *testing.T) {
	a, b, next := made("a", 1, 0), made("b", 7, 1, 2), made("a", 2, 0, 3)
	for i, c := range []struct {
		l    []api.Schema
		name string
		want api.Schema
		is   bool
	}{
		{nil, "a", api.Schema{}, false},
		{nil, "", api.Schema{}, false},
		{[]api.Schema{}, "a", api.Schema{}, false},
		{[]api.Schema{a}, "a", a, true},
		{[]api.Schema{a}, "b", api.Schema{}, false},
		{[]api.Schema{a}, "", api.Schema{}, false},
		{[]api.Schema{a}, "aa", api.Schema{}, false},
		{[]api.Schema{a}, "A", api.Schema{}, false},
		{[]api.Schema{a}, "a\x00", api.Schema{}, false},
		{[]api.Schema{made("aa", 1)}, "a", api.Schema{}, false},
		{[]api.Schema{a, b}, "b", b, true},
		{[]api.Schema{b, a}, "b", b, true},
		{[]api.Schema{b, a}, "a", a, true},
		{[]api.Schema{a, next, b}, "a", a, true},
		{[]api.Schema{b, next, a}, "a", next, true},
		{[]api.Schema{{Ver: 5}}, "", api.Schema{Ver: 5}, true},
		{[]api.Schema{made("A", -1, 9)}, "A", made("A", -1, 9), true},
		{append(list(20), made("z", 3, 3)), "z", made("z", 3, 3), true},
		{append(list(20), made("z", 3, 3)), "t", list(20)[19], true},
		{append(list(20), made("z", 3, 3)), "u", api.Schema{}, false},
	} {
		if got, is := registry.Find(c.l, c.name); is != c.is || !schema.Same(got, c.want) {
			t.Errorf("%d: Find(%v, %q) = %v, %v, want %v, %v", i, c.l, c.name, got, is, c.want, c.is)
		}
	}
}

// P7.1: Find is what the document's words say, of all names, there or not.
func TestFind(t *testing.T) {
	for _, l := range all() {
		for _, name := range []string{"", "a", "b", "z", "aa", "A", "new", "abcdefghijkl", "abcdefghijkm"} {
			checkFind(t, l, name)
		}
		for _, s := range l {
			checkFind(t, l, s.Name)
			checkFind(t, l, s.Name+"a")
		}
	}
}

// P7.1: Same holds two lists against each other schema by schema, in order, whether they may be or not.
func TestSame(t *testing.T) {
	l := all()
	for _, a := range l {
		for _, b := range l {
			if got, want := registry.Same(a, b), same(a, b); got != want {
				t.Fatalf("Same(%v, %v) = %v, want %v", a, b, got, want)
			}
		}
		if !registry.Same(a, cloneAll(a)) {
			t.Errorf("%v is not the same as itself", a)
		}
	}
}

// P7.1: each change of one of two that are the same makes them unlike, whichever stands first.
func TestSameButOne(t *testing.T) {
	for n := 1; n <= 9; n++ {
		for i := range n {
			a := list(n)
			name, ver, kind, field := cloneAll(a), cloneAll(a), cloneAll(a), cloneAll(a)
			name[i].Name = "other"
			ver[i].Ver++
			kind[i].F[3].Kind = 0
			field[i].F = field[i].F[:3]
			turned := cloneAll(a)
			turned[i], turned[(i+1)%n] = turned[(i+1)%n], turned[i]
			lists := [][]api.Schema{name, ver, kind, field, a[:i], slices.Delete(cloneAll(a), i, i+1), slices.Insert(cloneAll(a), i, a[i])}
			if n > 1 {
				lists = append(lists, turned)
			}
			for _, b := range lists {
				if registry.Same(a, b) || registry.Same(b, a) {
					t.Errorf("Same(%v, %v) = true", a, b)
				}
			}
		}
	}
	if !registry.Same(nil, []api.Schema{}) || !registry.Same([]api.Schema{made("a", 1)}, []api.Schema{{Name: "a", Ver: 1, F: []api.Field{}}}) {
		t.Error("no element and an empty list are not the same")
	}
}

// P7.2: Add, written out, the document's example among them, and each error ahead of those named behind it (R2).
func TestAddExamples(t *testing.T) {
	a, b, next := made("a", 1, 0), made("b", 7, 1, 2), made("a", 2, 0, 3)
	full := list(8) // a of version 1 to h of version 22
	up := clone(full[7])
	up.Ver++
	for i, c := range []struct {
		l    []api.Schema
		s    api.Schema
		want []api.Schema
		why  api.Errno
	}{
		{nil, a, []api.Schema{a}, api.OK},
		{[]api.Schema{}, made("a", 1), []api.Schema{made("a", 1)}, api.OK},
		{[]api.Schema{made("a", 1)}, made("a", 1), nil, api.ErrHave}, // the document's example
		{[]api.Schema{a}, a, nil, api.ErrHave},
		{[]api.Schema{a}, next, []api.Schema{next}, api.OK},
		{[]api.Schema{a, b}, next, []api.Schema{next, b}, api.OK},
		{[]api.Schema{b, a}, next, []api.Schema{b, next}, api.OK},
		{[]api.Schema{b}, a, []api.Schema{b, a}, api.OK},
		{[]api.Schema{made("c", 1), made("b", 1)}, a, []api.Schema{made("c", 1), made("b", 1), a}, api.OK},
		{[]api.Schema{a}, made("a", 1, 1), nil, api.ErrType},    // its version, with another field
		{[]api.Schema{a}, made("a", 1), nil, api.ErrType},       // with none
		{[]api.Schema{a}, made("a", 1, 0, 3), nil, api.ErrType}, // with one more
		{[]api.Schema{a}, made("a", 2), nil, api.ErrType},       // the next version, with a field less
		{[]api.Schema{a}, made("a", 2, 1), nil, api.ErrType},    // with another one
		{[]api.Schema{a}, made("a", 3, 0), nil, api.ErrType},    // a version left out
		{[]api.Schema{next}, a, nil, api.ErrType},               // the version ahead
		{[]api.Schema{b}, made("b", 7, 1, 2), nil, api.ErrHave},
		{[]api.Schema{b}, made("b", 8, 1, 2), []api.Schema{made("b", 8, 1, 2)}, api.OK},
		{[]api.Schema{b}, made("b", 1, 1, 2), nil, api.ErrType},
		{[]api.Schema{made("b", 999)}, made("b", 1000), []api.Schema{made("b", 1000)}, api.OK},
		{[]api.Schema{made("b", 1000)}, made("b", 1000), nil, api.ErrHave},
		{[]api.Schema{made("b", 1000)}, made("b", 1), nil, api.ErrType},
		{[]api.Schema{made("b", 1000)}, made("b", 1001), nil, api.ErrArg},
		{nil, made("a", 2), nil, api.ErrType}, // a new name begins at version 1
		{nil, made("a", 1000), nil, api.ErrType},
		{nil, b, nil, api.ErrType},
		{nil, made("a", 0), nil, api.ErrArg},
		{nil, made("A", 1), nil, api.ErrArg},
		{nil, api.Schema{}, nil, api.ErrArg},
		{full[:7], made("h", 1), append(list(7), made("h", 1)), api.OK},
		{full, made("i", 1), nil, api.ErrFull},
		{full, made("i", 2), nil, api.ErrType}, // ahead of ErrFull
		{full, made("i", 0), nil, api.ErrArg},
		{full, full[0], nil, api.ErrHave}, // there is no room, but none is asked for
		{full, full[7], nil, api.ErrHave},
		{full, up, append(list(7), up), api.OK},
		{full, made("h", 1), nil, api.ErrType},
		{list(9), made("x", 1), nil, api.ErrArg}, // ahead of all
		{list(9), made("x", 2), nil, api.ErrArg},
		{list(9), list(9)[0], nil, api.ErrArg},
		{[]api.Schema{a, a}, a, nil, api.ErrArg},
		{[]api.Schema{a, next}, made("a", 3, 0, 3), nil, api.ErrArg},
		{[]api.Schema{made("A", 1)}, made("A", 1), nil, api.ErrArg},
		{[]api.Schema{made("A", 1)}, a, nil, api.ErrArg},
		{[]api.Schema{a, made("b", 0)}, a, nil, api.ErrArg},
	} {
		if got, why := registry.Add(c.l, c.s); why != c.why || !same(got, c.want) {
			t.Errorf("%d: Add(%v, %v) = %v, %v, want %v, %v", i, c.l, c.s, got, why, c.want, c.why)
		}
	}
}

// P7.2: Add is what the document's words say, of each list and all that might be added to it.
func TestAdd(t *testing.T) {
	told := map[api.Errno]int{}
	for _, l := range all() {
		for _, s := range offered(l) {
			checkAdd(t, l, s)
			_, why := registry.Add(l, s)
			told[why]++
		}
	}
	for _, why := range []api.Errno{api.OK, api.ErrArg, api.ErrHave, api.ErrType, api.ErrFull} {
		if told[why] == 0 {
			t.Errorf("%v was never told", why)
		}
	}
}

// P7.2: a next version stands at its place, whichever that is, and all others stay at theirs.
func TestAddInPlace(t *testing.T) {
	for n := 1; n <= 8; n++ {
		for i := range n {
			next := made(list(n)[i].Name, 2+i*3, 0, 1, 2, 3, 1)
			want := list(n)
			want[i] = next
			if got, why := registry.Add(list(n), next); why != api.OK || !registry.Same(got, want) {
				t.Errorf("Add(%v, %v) = %v, %v", list(n), next, got, why)
			}
		}
	}
}

// someSchema is one of few names, that mostly may be, but not always.
func someSchema(r *rand.Rand) api.Schema {
	s := api.Schema{Name: string(rune('a' + r.Intn(11))), Ver: 1 + r.Intn(60)/58}
	if r.Intn(30) == 0 {
		s.Name += strings.Repeat("A", r.Intn(2))
		s.Ver = r.Intn(3) * 500
	}
	for range r.Intn(4) {
		s.F = append(s.F, api.Field{Name: "f" + string(rune('0'+r.Intn(9))), Kind: r.Intn(4) + r.Intn(80)/79})
	}
	return s
}

// nextOf is what might go on with a schema, or might not.
func nextOf(r *rand.Rand, s api.Schema) api.Schema {
	next := clone(s)
	next.Ver += 1 + r.Intn(8)/7
	switch r.Intn(6) {
	case 0, 1:
		next.F = append(next.F, api.Field{Name: "g" + string(rune('0'+len(next.F))), Kind: r.Intn(4)})
	case 2:
		r.Shuffle(len(next.F), func(i, j int) { next.F[i], next.F[j] = next.F[j], next.F[i] })
	case 3:
		next.F = next.F[:r.Intn(len(next.F)+1)]
	}
	return next
}

// P7.2, P7.3: lists that grow one by one are what the document's words say; they may be, and what was found is found again, with all its fields.
func TestAddOneByOne(t *testing.T) {
	r := rand.New(rand.NewSource(7))
	for range 400 {
		var l []api.Schema
		for range 60 {
			s := someSchema(r)
			if len(l) > 0 && r.Intn(2) == 0 {
				s = nextOf(r, l[r.Intn(len(l))])
			}
			next := checkAdd(t, l, s)
			if _, why := registry.Add(l, s); why != api.OK {
				continue
			}
			checkStays(t, l, next)
			if got, is := registry.Find(next, s.Name); !is || !schema.Same(got, s) {
				t.Fatalf("Find(%v, %q) = %v, %v, when %v was added", next, s.Name, got, is, s)
			}
			l = next
		}
	}
}

// checkStays holds a list against the one it was added to.
func checkStays(t *testing.T, was, next []api.Schema) {
	t.Helper()
	if !registry.May(next) {
		t.Fatalf("May(%v) = false", next)
	}
	for _, old := range was {
		got, is := registry.Find(next, old.Name)
		if !is || len(got.F) < len(old.F) || !slices.Equal(got.F[:len(old.F)], old.F) {
			t.Fatalf("Find(%v, %q) = %v, %v, when %v was found", next, old.Name, got, is, old)
		}
	}
}

// P7.3: of a list that may be, each answer may be, too, and has all that was there.
func TestAddKeeps(t *testing.T) {
	for _, l := range good() {
		for _, s := range offered(l) {
			if next, why := registry.Add(l, s); why == api.OK {
				checkStays(t, l, next)
			}
		}
	}
}

// P7.3: one schema goes on to the last version, and no further.
func TestAddToTheLastVersion(t *testing.T) {
	l := list(3)
	for ver := 2; ver <= 1000; ver++ {
		l = checkAdd(t, l, made("a", ver, 0, 1, 2, 3, 0, 1))
	}
	if got, is := registry.Find(l, "a"); !is || got.Ver != 1000 || len(l) != 3 {
		t.Errorf("found %v, %v in %v", got, is, l)
	}
	for _, ver := range []int{1, 999, 1000, 1001} {
		checkAdd(t, l, made("a", ver, 0, 1, 2, 3, 0, 1))
	}
}

// R4: with an error there is no list.
func TestAddWithErrorIsNothing(t *testing.T) {
	for _, l := range all() {
		for _, s := range offered(l) {
			if got, why := registry.Add(l, s); why != api.OK && len(got) != 0 {
				t.Fatalf("Add(%v, %v) = %v, %v", l, s, got, why)
			}
		}
	}
}

// roomy is a list like another one, with room behind it, and behind the fields of each, where something stands.
func roomy(l []api.Schema) []api.Schema {
	room := make([]api.Schema, 0, len(l)+2)
	for _, s := range l {
		room = append(room, roomyFields(s))
	}
	return append(room, made("behind", 1), made("again", 1))[:len(l)]
}

func roomyFields(s api.Schema) api.Schema {
	behind := append(slices.Clone(s.F), api.Field{Name: "behind", Kind: 1}, api.Field{Name: "again", Kind: 2})
	s.F = behind[:len(s.F)]
	return s
}

// seen is all that a list tells, also of what stands behind it, and behind the fields of each.
func seen(l []api.Schema) []api.Schema {
	var told []api.Schema
	for _, s := range l[:cap(l)] {
		s.F = s.F[:cap(s.F)]
		told = append(told, clone(s))
	}
	return told
}

// R3: what is handed in stays as it was, also what stands behind it.
func TestArgumentsStayAsTheyWere(t *testing.T) {
	for _, like := range all() {
		for _, s := range offered(like) {
			l, more := roomy(like), roomyFields(s)
			was, ofMore := seen(l), seen([]api.Schema{more})
			registry.May(l)
			registry.Find(l, s.Name)
			registry.Add(l, more)
			registry.Same(l, l)
			if !same(seen(l), was) || !same(seen([]api.Schema{more}), ofMore) {
				t.Fatalf("%v and %v became %v and %v", was, ofMore, seen(l), more)
			}
		}
	}
}

// spoil changes all of a list, and all that it has room for.
func spoil(l []api.Schema) {
	l = l[:cap(l)]
	for i := range l {
		f := l[i].F[:cap(l[i].F)]
		for j := range f {
			f[j] = api.Field{Name: "spoilt", Kind: 3}
		}
		l[i] = api.Schema{Name: "spoilt", Ver: 77}
	}
}

// R3: what is answered shares nothing with what was handed in, whichever of the two is changed.
func TestAnswersAreOwn(t *testing.T) {
	for _, like := range good() {
		for _, s := range offered(like) {
			l, more := roomy(like), roomyFields(s)
			want, _ := add(like, s)
			got, _ := registry.Add(l, more)
			found, _ := registry.Find(l, s.Name)
			wanted, _ := find(like, s.Name)
			was := seen(l)
			other, _ := registry.Add(l, more)
			spoil(other)
			if !same(seen(l), was) || !schema.Same(more, s) {
				t.Fatalf("%v became %v, when the answer was changed", was, seen(l))
			}
			spoil(l)
			spoil([]api.Schema{more})
			if !same(got, want) || !schema.Same(found, wanted) {
				t.Fatalf("%v and %v became %v and %v, when what was handed in was changed", want, wanted, got, found)
			}
		}
	}
}

// R3: what was found may be changed, and the list stays.
func TestFoundIsOwn(t *testing.T) {
	for _, like := range all() {
		for _, s := range like {
			l := roomy(like)
			was := seen(l)
			found, _ := registry.Find(l, s.Name)
			spoil([]api.Schema{found})
			if !same(seen(l), was) {
				t.Fatalf("%v became %v", was, seen(l))
			}
		}
	}
}

// R3: no two schemas of an answer share their fields, also where what was handed in did.
func TestAnswersShareNothing(t *testing.T) {
	fields := make([]api.Field, 2, 6)
	fields[0], fields[1] = api.Field{Name: "x"}, api.Field{Name: "y"}
	l := []api.Schema{{Name: "a", Ver: 1, F: fields}, {Name: "b", Ver: 1, F: fields}, {Name: "c", Ver: 1, F: fields[:1]}}
	for _, s := range []api.Schema{{Name: "d", Ver: 1, F: fields}, {Name: "b", Ver: 2, F: fields}} {
		want, _ := add(l, s)
		for i := range want {
			got, _ := registry.Add(l, s)
			spoil(got[i : i+1 : i+1])
			if got[i] = want[i]; !same(got, want) {
				t.Errorf("Add(%v, %v) became %v, when its %d was changed", l, s, got, i)
			}
		}
	}
}

// R5: what was asked before changes nothing.
func TestNothingKept(t *testing.T) {
	for range 3 {
		for _, l := range all() {
			if got, want := registry.May(l), may(l); got != want {
				t.Fatalf("May(%v) = %v, want %v", l, got, want)
			}
			checkFind(t, l, "a")
			checkAdd(t, l, made("a", 2, 0, 1, 2, 3))
			checkAdd(t, l, made("new", 1))
		}
	}
}

// R1: long lists, long names, many fields.
func TestLongArguments(t *testing.T) {
	long := slices.Repeat(list(1), 1<<18)
	long = append(long, made("z", 5))
	wide := api.Schema{Name: "a", Ver: 1, F: make([]api.Field, 1<<18)}
	name := strings.Repeat("a", 1<<20)
	if registry.May(long) || registry.May([]api.Schema{wide}) || !registry.Same(long, slices.Clone(long)) || registry.Same(long, long[1:]) {
		t.Error("long ones are told wrongly")
	}
	checkFind(t, long, "z")
	checkFind(t, long, "b")
	checkFind(t, []api.Schema{made(name, 1), wide}, name)
	checkFind(t, []api.Schema{made(name, 1), wide}, "a")
	checkAdd(t, long, made("y", 1))
	checkAdd(t, nil, wide)
	checkAdd(t, list(2), made(name, 1))
}
