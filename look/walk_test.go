package look_test

import (
	"math"
	"slices"
	"testing"

	"intaglio/api"
	"intaglio/cause"
	"intaglio/look"
	"intaglio/tree"
)

// leads are all paths that lead to something in a right struct.
func leads(s api.Schema, t int, v api.Tree, ahead []int) [][]int {
	var all [][]int
	on := func(path []int, next int) []int { return append(slices.Clone(path), next) }
	for i, f := range s[t] {
		field, here := v.Kids[i], on(ahead, i)
		all = append(all, here)
		for k := range len(field.Bytes) + len(field.Nums) {
			all = append(all, on(here, k))
		}
		for k, inner := range field.Kids {
			into := here
			if f.Kind == api.Many {
				into = on(here, k)
				all = append(all, into)
			}
			all = append(all, leads(s, f.Type, inner, into)...)
		}
	}
	return all
}

// paths are those, the one of no numbers, and each of them with more behind it: one number, and three.
func paths(s api.Schema, t int, v api.Tree) [][]int {
	var all [][]int
	for _, path := range append(leads(s, t, v, nil), nil) {
		all = append(all, path)
		for _, next := range wild() {
			one := append(slices.Clone(path), next)
			all = append(all, one, append(slices.Clone(one), 0, 0))
		}
	}
	return all
}

// course is which words a walk asks for, in order, and what it is told.
type course struct {
	asked []int
	n     uint64
	code  api.Errno
}

// chapter is what the chapter says of a walk, whatever words it is given: field by field in one go, with no walk that has to remember where it is.
func chapter(s api.Schema, t, at int, path []int, give func(word int) uint64) course {
	var asked []int
	fields := s[t]
	for {
		if len(path) == 0 || path[0] < 0 || path[0] >= len(fields) {
			return course{asked, 0, api.ErrArg}
		}
		f, own := fields[path[0]], at+path[0]
		path = path[1:]
		asked = append(asked, own)
		word := give(own)
		begin, count := own+int(word%(1<<32)), word/(1<<32)
		if len(path) == 0 && f.Kind == 1 {
			return course{asked, word, api.OK}
		}
		if len(path) == 0 {
			return course{asked, count, api.OK}
		}
		if f.Kind == 1 {
			return course{asked, 0, api.ErrKind}
		}
		which := 0
		if f.Kind != 4 {
			which = path[0]
			path = path[1:]
		}
		if which < 0 || uint64(which) >= count {
			return course{asked, 0, api.ErrNone}
		}
		if f.Kind == 2 || f.Kind == 3 {
			if len(path) > 0 {
				return course{asked, 0, api.ErrKind}
			}
			if f.Kind == 3 {
				asked = append(asked, begin+which)
				return course{asked, give(begin + which), api.OK}
			}
			asked = append(asked, begin+which/8)
			word = give(begin + which/8)
			for range which % 8 {
				word /= 256
			}
			return course{asked, word % 256, api.OK}
		}
		fields = s[f.Type]
		if f.Kind == 5 && len(path) == 0 {
			return course{asked, uint64(len(fields)), api.OK}
		}
		at = begin + which*len(fields)
	}
}

// checkNeeds asks whether the walk needs just that word, however often it is asked.
func checkNeeds(t *testing.T, w *look.Walk, word int) {
	t.Helper()
	for range 2 {
		if i, more := w.Next(); i != word || !more {
			t.Fatalf("Next: %d, %v, want %d", i, more, word)
		}
		if got, err := w.Told(); got != 0 || err != cause.New(api.ErrState) {
			t.Fatalf("Told ahead of the end: %d, %v", got, err)
		}
	}
}

// checkEnded asks whether the walk has ended, tells that, and whatever it is given changes nothing.
func checkEnded(t *testing.T, w *look.Walk, n uint64, trouble error) {
	t.Helper()
	for _, word := range []uint64{0, ref(1, 1), math.MaxUint64} {
		if i, more := w.Next(); i != 0 || more {
			t.Fatalf("Next behind the end: %d, %v", i, more)
		}
		if got, err := w.Told(); got != n || err != trouble {
			t.Fatalf("Told: %d, %v, want %d, %v", got, err, n, trouble)
		}
		w.Give(word)
	}
}

// checkWalk holds a walk, that is given such words, against the chapter. What give tells of a word may be another thing each time, but must be the same row of things each time that start is called.
func checkWalk(t *testing.T, c value, at int, path []int, start func() (give func(word int) uint64)) course {
	t.Helper()
	want := chapter(c.s, c.t, at, path, start())
	give, mine := start(), slices.Clone(path)
	w := look.Start(c.s, c.t, at, mine...)
	if w == nil {
		t.Fatalf("Start(%v, %d, %d, %v): nil", c.s, c.t, at, path)
	}
	if !slices.Equal(mine, path) {
		t.Fatalf("Start changed the path %v to %v", path, mine)
	}
	for i := range mine {
		mine[i] = 1 - mine[i]
	}
	given := slices.Clone(mine)
	for _, word := range want.asked {
		checkNeeds(t, w, word)
		w.Give(give(word))
	}
	checkEnded(t, w, want.n, cause.New(want.code))
	if !slices.Equal(mine, given) {
		t.Fatalf("the walk changed the path that was handed in")
	}
	if t.Failed() {
		t.Fatalf("walk of %v, %d, %d, %v", c.s, c.t, at, path)
	}
	return want
}

// from is what tells the words of a message.
func from(words []uint64) func() func(int) uint64 {
	return func() func(int) uint64 { return func(i int) uint64 { return words[i] } }
}

// P9.2: walks.

func TestWhenThereIsNoWalk(t *testing.T) {
	for _, s := range wrongSchemas() {
		for _, ty := range []int{-1, 0, 1} {
			if look.Start(s, ty, 1, 0) != nil || look.Start(s, ty, 1) != nil {
				t.Errorf("Start(%v, %d): a walk", s, ty)
			}
		}
	}
	for types := 1; types <= 8; types++ {
		s := slices.Repeat(api.Schema{{num()}}, types)
		for _, ty := range append(wild(), types-1, types, types+1) {
			is := ty >= 0 && ty < types
			for _, path := range [][]int{nil, {0}, {-1}, {0, 0}} {
				if w := look.Start(s, ty, 1, path...); (w != nil) != is {
					t.Errorf("Start of type %d of %d, %v: %v", ty, types, path, w)
				}
			}
		}
	}
}

func TestNilWalk(t *testing.T) {
	var w *look.Walk
	for range 2 {
		if i, more := w.Next(); i != 0 || more {
			t.Errorf("Next: %d, %v", i, more)
		}
		if got, err := w.Told(); got != 0 || err != cause.New(api.ErrArg) {
			t.Errorf("Told: %d, %v", got, err)
		}
		w.Give(7)
	}
	// One that nobody started ends, too.
	w = &look.Walk{}
	w.Give(7)
	if i, more := w.Next(); i != 0 || more {
		t.Errorf("Next: %d, %v", i, more)
	}
	w.Told()
}

// P9.2, P9.3: by hand.

func TestWalksByHand(t *testing.T) {
	const top = math.MaxUint32
	s := api.Schema{{num(), bytes(), nums(), one(1), many(2), one(3)}, {num(), one(0), nums()}, {bytes(), num()}, {one(3), many(3)}}
	for _, c := range []struct {
		what  string
		t, at int
		path  []int
		given []uint64
		want  course
	}{
		{"no numbers", 0, 1, nil, nil, course{nil, 0, api.ErrArg}},
		{"a field that there is not", 0, 1, []int{6}, nil, course{nil, 0, api.ErrArg}},
		{"a field below 0", 0, 1, []int{-1, 0}, nil, course{nil, 0, api.ErrArg}},
		{"a field that another type has", 1, 1, []int{3}, nil, course{nil, 0, api.ErrArg}},
		{"a number", 0, 1, []int{0}, []uint64{math.MaxUint64}, course{[]int{1}, math.MaxUint64, 0}},
		{"a number at 0", 0, 0, []int{0}, []uint64{9}, course{[]int{0}, 9, 0}},
		{"a number further on", 2, 1000, []int{1}, []uint64{9}, course{[]int{1001}, 9, 0}},
		{"behind a number", 0, 1, []int{0, 0}, []uint64{9}, course{[]int{1}, 0, api.ErrKind}},
		{"behind a number, below 0", 0, 1, []int{0, -1, 7}, []uint64{9}, course{[]int{1}, 0, api.ErrKind}},
		{"how many bytes", 0, 1, []int{1}, []uint64{ref(3, 10)}, course{[]int{2}, 10, 0}},
		{"no bytes", 0, 1, []int{1}, []uint64{0}, course{[]int{2}, 0, 0}},
		{"a byte of none", 0, 1, []int{1, 0}, []uint64{0}, course{[]int{2}, 0, api.ErrNone}},
		{"the first byte", 0, 1, []int{1, 0}, []uint64{ref(3, 10), 0x8877665544332211}, course{[]int{2, 5}, 0x11, 0}},
		{"the eighth byte", 0, 1, []int{1, 7}, []uint64{ref(3, 10), 0x8877665544332211}, course{[]int{2, 5}, 0x88, 0}},
		{"the ninth byte", 0, 1, []int{1, 8}, []uint64{ref(3, 10), 0x8877665544332211}, course{[]int{2, 6}, 0x11, 0}},
		{"the last byte", 0, 1, []int{1, 9}, []uint64{ref(3, 10), 0x8877665544332211}, course{[]int{2, 6}, 0x22, 0}},
		{"behind the last byte", 0, 1, []int{1, 10}, []uint64{ref(3, 10)}, course{[]int{2}, 0, api.ErrNone}},
		{"ahead of the first byte", 0, 1, []int{1, -1}, []uint64{ref(3, 10)}, course{[]int{2}, 0, api.ErrNone}},
		{"behind a byte", 0, 1, []int{1, 9, 0}, []uint64{ref(3, 10)}, course{[]int{2}, 0, api.ErrKind}},
		{"behind a byte that there is not", 0, 1, []int{1, 10, 0}, []uint64{ref(3, 10)}, course{[]int{2}, 0, api.ErrNone}},
		{"more bytes than there may be", 0, 1, []int{1}, []uint64{ref(0, top)}, course{[]int{2}, top, 0}},
		{"the last one of these", 0, 1, []int{1, top - 1}, []uint64{ref(top, top), 0x11 << 48}, course{[]int{2, 2 + top + (top-1)/8}, 0x11, 0}},
		{"behind the last one of these", 0, 1, []int{1, top}, []uint64{ref(top, top)}, course{[]int{2}, 0, api.ErrNone}},
		{"beyond 32 bits", 0, 1, []int{1, 1 << 32}, []uint64{ref(1, top)}, course{[]int{2}, 0, api.ErrNone}},
		{"how many numbers", 0, 1, []int{2}, []uint64{ref(3, 2)}, course{[]int{3}, 2, 0}},
		{"the first number of a row", 0, 1, []int{2, 0}, []uint64{ref(3, 2), math.MaxUint64}, course{[]int{3, 6}, math.MaxUint64, 0}},
		{"the second number", 0, 1, []int{2, 1}, []uint64{ref(3, 2), 1 << 63}, course{[]int{3, 7}, 1 << 63, 0}},
		{"the third number of two", 0, 1, []int{2, 2}, []uint64{ref(3, 2)}, course{[]int{3}, 0, api.ErrNone}},
		{"behind a number of a row", 0, 1, []int{2, 1, 1}, []uint64{ref(3, 2)}, course{[]int{3}, 0, api.ErrKind}},
		{"a number that is the reference itself", 0, 1, []int{2, 0}, []uint64{ref(0, 1), 5}, course{[]int{3, 3}, 5, 0}},
		{"more numbers than there may be", 0, 1, []int{2, top - 1}, []uint64{ref(top, top), 5}, course{[]int{3, 3 + top + top - 1}, 5, 0}},
		{"whether there is one", 0, 1, []int{3}, []uint64{ref(2, 1)}, course{[]int{4}, 1, 0}},
		{"whether there is one: none", 0, 1, []int{3}, []uint64{0}, course{[]int{4}, 0, 0}},
		{"whether there is one: none, with an offset", 0, 1, []int{3}, []uint64{ref(5, 0)}, course{[]int{4}, 0, 0}},
		{"whether there is one: many", 0, 1, []int{3}, []uint64{ref(5, top)}, course{[]int{4}, top, 0}},
		{"in one", 0, 1, []int{3, 0}, []uint64{ref(2, 1), 8}, course{[]int{4, 6}, 8, 0}},
		{"in the first one of many", 0, 1, []int{3, 0}, []uint64{ref(2, 7), 8}, course{[]int{4, 6}, 8, 0}},
		{"in none", 0, 1, []int{3, 0}, []uint64{0}, course{[]int{4}, 0, api.ErrNone}},
		{"in none, with an offset", 0, 1, []int{3, 0}, []uint64{ref(2, 0)}, course{[]int{4}, 0, api.ErrNone}},
		{"in none, of no use", 0, 1, []int{3, 9, 9}, []uint64{0}, course{[]int{4}, 0, api.ErrNone}},
		{"a field that one has not", 0, 1, []int{3, 3}, []uint64{ref(2, 1)}, course{[]int{4}, 0, api.ErrArg}},
		{"a field of one, below 0", 0, 1, []int{3, -1}, []uint64{ref(2, 1)}, course{[]int{4}, 0, api.ErrArg}},
		{"behind a number in one", 0, 1, []int{3, 0, 0}, []uint64{ref(2, 1), 8}, course{[]int{4, 6}, 0, api.ErrKind}},
		{"in one, in one", 0, 1, []int{3, 1, 0}, []uint64{ref(2, 1), ref(top, 1), 8}, course{[]int{4, 7, 7 + top}, 8, 0}},
		{"how many structs", 0, 1, []int{4}, []uint64{ref(2, 3)}, course{[]int{5}, 3, 0}},
		{"how many fields", 0, 1, []int{4, 2}, []uint64{ref(2, 3)}, course{[]int{5}, 2, 0}},
		{"how many fields of what there is not", 0, 1, []int{4, 3}, []uint64{ref(2, 3)}, course{[]int{5}, 0, api.ErrNone}},
		{"in what there is not", 0, 1, []int{4, 3, 9}, []uint64{ref(2, 3)}, course{[]int{5}, 0, api.ErrNone}},
		{"in what there is not, below 0", 0, 1, []int{4, -1, 0}, []uint64{ref(2, 3)}, course{[]int{5}, 0, api.ErrNone}},
		{"a field that the third has not", 0, 1, []int{4, 2, 2}, []uint64{ref(2, 3)}, course{[]int{5}, 0, api.ErrArg}},
		{"the third one's number", 0, 1, []int{4, 2, 1}, []uint64{ref(2, 3), 8}, course{[]int{5, 7 + 2*2 + 1}, 8, 0}},
		{"the first one's text's byte", 0, 1, []int{4, 0, 0, 1}, []uint64{ref(2, 3), ref(1, 2), 0x6261}, course{[]int{5, 7, 8}, 0x62, 0}},
		{"the last one of more structs than there may be", 0, 1, []int{4, top - 1, 1}, []uint64{ref(top, top), 8}, course{[]int{5, 5 + top + 2*(top-1) + 1}, 8, 0}},
		{"deeper than structs may be", 0, 1, []int{5, 0, 0, 0, 1, 0, 0, 1}, []uint64{ref(1, 1), ref(1, 1), ref(1, 1), ref(1, 1), ref(1, 1), ref(1, 1), ref(1, 9)},
			course{[]int{6, 7, 8, 9, 11, 12, 14}, 9, 0}},
	} {
		start := func() func(int) uint64 {
			rest := c.given
			return func(int) uint64 {
				word := rest[0]
				rest = rest[1:]
				return word
			}
		}
		t.Run(c.what, func(t *testing.T) {
			got := checkWalk(t, value{s, c.t, api.Tree{}}, c.at, c.path, start)
			if !slices.Equal(got.asked, c.want.asked) || got.n != c.want.n || got.code != c.want.code {
				t.Errorf("the tests' own chapter tells %v, want %v", got, c.want)
			}
		})
	}
}

// P9.3, P9.4: of a right message a walk is told what Path tells, and asks for words of it alone: no more than the path has numbers, and none twice.
func checkRight(t *testing.T, c value, words []uint64, path []int) api.Errno {
	t.Helper()
	got := checkWalk(t, c, 1, path, from(words))
	want, wantErr := tree.Get(c.s, c.t, c.v, path...)
	if got.n != want || cause.New(got.code) != wantErr {
		t.Fatalf("walk of %v, %x, %v: %v, want %d, %v", c.s, words, path, got, want, wantErr)
	}
	if told, err := look.Path(c.s, words, path...); told != want || err != wantErr {
		t.Fatalf("Path(%v, %x, %v): %d, %v, want %d, %v", c.s, words, path, told, err, want, wantErr)
	}
	last := 0
	for _, word := range got.asked {
		if word <= last || word >= len(words) {
			t.Fatalf("walk of %v, %x, %v: asks for %v", c.s, words, path, got.asked)
		}
		last = word
	}
	if len(got.asked) > len(path) {
		t.Fatalf("walk of %v, %x, %v: asks for %v, more than the path has numbers", c.s, words, path, got.asked)
	}
	return got.code
}

func TestWalksOfRightMessages(t *testing.T) {
	codes := map[api.Errno]int{}
	longest := 0
	for _, m := range messages(t, 100) {
		for _, path := range paths(m.s, m.t, m.v) {
			codes[checkRight(t, m.value, m.words, path)]++
			longest = max(longest, len(path))
		}
	}
	if longest < 11 {
		t.Errorf("the longest path has %d numbers: too few to tell", longest)
	}
	atLeast(t, codes, 5000, api.OK, api.ErrArg, api.ErrNone, api.ErrKind)
}

// Messages that are right, though nobody built them: in which words are referred to twice, or not at all.
func TestWalksOfBentMessages(t *testing.T) {
	right := 0
	for _, m := range bent(messages(t, 50)) {
		if ty, v, err := look.Decode(m.s, m.words); err == nil {
			right++
			c := value{m.s, ty, v}
			all := leads(m.s, ty, v, nil)
			for i := right % 7; i < len(all); i += 7 {
				checkRight(t, c, m.words, all[i])
			}
		}
	}
	if right < 1000 {
		t.Errorf("%d right messages: too few to tell", right)
	}
}

// P9.2, P9.3: any words.

// loose is a word that refers to any number of things, anywhere.
func loose(d *drawer) uint64 {
	n := []uint64{0, 1, 1, 2, 3, 12, 13, 40, 41, 1 << 31, 1<<32 - 1}[d.below(11)]
	offset := []uint64{0, 0, 1, 1, 2, 5, 200, 1 << 31, 1<<32 - 1}[d.below(9)]
	return []uint64{ref(offset, n), ref(offset, n), ref(offset, n), d.word(), d.word() >> 32, 0}[d.below(6)]
}

// route is a path that mostly leads somewhere, if there is as much as it wants.
func (d *drawer) route(s api.Schema, t int) []int {
	some := func(below int) int {
		all := append(wild(), 0, 0, 0, 0, 0, 0, 0, 1, 1, 1, 1)
		if below > 0 && d.below(8) > 0 {
			return d.below(below)
		}
		return all[d.below(len(all))]
	}
	var path []int
	for d.below(9) > 0 {
		i := some(len(s[t]))
		path = append(path, i)
		if i < 0 || i >= len(s[t]) || d.below(9) == 0 {
			break
		}
		if s[t][i].Kind < 4 {
			for range d.below(3) {
				path = append(path, some(0))
			}
			break
		}
		if s[t][i].Kind == 5 {
			path = append(path, some(0))
		}
		t = s[t][i].Type
	}
	return path
}

func TestWalksOfAnyWords(t *testing.T) {
	codes := map[api.Errno]int{}
	most := 0
	d := &drawer{}
	for range 200000 {
		s := d.schema()
		c := value{s, d.below(len(s)), api.Tree{}}
		at := []int{0, 1, 2, 77, 1 << 40}[d.below(5)]
		path, seed := d.route(s, c.t), d.word()
		start := func() func(int) uint64 {
			words := &drawer{seed}
			return func(int) uint64 { return loose(words) }
		}
		got := checkWalk(t, c, at, path, start)
		codes[got.code]++
		most = max(most, len(got.asked))
	}
	if most < 7 {
		t.Errorf("at most %d words were asked for: too few to tell", most)
	}
	atLeast(t, codes, 10000, api.OK, api.ErrArg, api.ErrNone, api.ErrKind)
}

// All short paths, of words that refer to one thing, or to two, or are 0.
func TestWalksOfShortPaths(t *testing.T) {
	s := api.Schema{{num(), one(1), many(1)}, {bytes(), nums(), one(0), many(0)}}
	numbers := []int{-1, 0, 1, 2, 3, 4}
	for _, word := range []uint64{0, ref(0, 1), ref(1, 1), ref(3, 2), ref(2, 4)} {
		var walk func(path []int)
		walk = func(path []int) {
			for ty := range s {
				checkWalk(t, value{s, ty, api.Tree{}}, 1, path, func() func(int) uint64 { return func(int) uint64 { return word } })
			}
			if len(path) < 5 {
				for _, next := range numbers {
					walk(append(slices.Clone(path), next))
				}
			}
		}
		walk(nil)
	}
}

// A path may be far longer than any struct is deep.
func TestLongPaths(t *testing.T) {
	const length = 1 << 20
	s := api.Schema{{many(0), one(0)}}
	path := slices.Repeat([]int{1}, length)
	give := func() func(int) uint64 { return func(int) uint64 { return ref(1<<32-1, 1) } }
	got := checkWalk(t, value{s, 0, api.Tree{}}, 1, path, give)
	if len(got.asked) != length || got.n != 1 || got.asked[length-1] != 2+(length-1)<<32 {
		t.Errorf("a long path: %d words, the last one %d, told %d", len(got.asked), got.asked[len(got.asked)-1], got.n)
	}
}

// Words that nobody has are asked for, too: Start says nothing against them.
func TestWalksAtAnyWord(t *testing.T) {
	s := api.Schema{{one(0), nums(), bytes()}}
	for _, at := range []int{math.MinInt, -1 << 32, -1, 0, 1, 200, 4096, 1 << 32, math.MaxInt - 2} {
		for _, path := range [][]int{nil, {0}, {1}, {2}, {3}, {0, 1, 0}, {2, 9}} {
			checkWalk(t, value{s, 0, api.Tree{}}, at, path, func() func(int) uint64 { return func(int) uint64 { return ref(0, 12) } })
		}
	}
	w := look.Start(s, 0, math.MaxInt, 2, 1<<32-2)
	for range 3 {
		w.Next()
		w.Give(math.MaxUint64)
	}
	if _, err := w.Told(); err != nil {
		t.Errorf("a walk at the greatest word: %v", err)
	}
}

// R3, R4: walks that go on by turns, of one row of numbers, do not see one another.
func TestWalksByTurns(t *testing.T) {
	for _, m := range messages(t, 100) {
		all := leads(m.s, m.t, m.v, nil)
		walks := make([]*look.Walk, len(all))
		for i, path := range all {
			walks[i] = look.Start(m.s, m.t, 1, path...)
		}
		for going := true; going; {
			going = false
			for _, w := range walks {
				if i, more := w.Next(); more {
					w.Give(m.words[i])
					going = true
				}
			}
		}
		for i, w := range walks {
			want, wantErr := tree.Get(m.s, m.t, m.v, all[i]...)
			if got, err := w.Told(); got != want || err != wantErr {
				t.Fatalf("walk of %v, %x, %v: %d, %v, want %d, %v", m.s, m.words, all[i], got, err, want, wantErr)
			}
		}
	}
}
