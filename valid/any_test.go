package valid_test

import (
	"math"
	"slices"
	"testing"

	"intaglio/api"
	"intaglio/bits"
	"intaglio/build"
	"intaglio/schema"
	"intaglio/tree"
	"intaglio/valid"
)

// drawer tells numbers that look drawn by chance, and are the same each time.
type drawer struct{ seed uint64 }

func (d *drawer) word() uint64 {
	d.seed++
	return bits.Mix(d.seed)
}

// below is a number from 0 on, below that one.
func (d *drawer) below(n int) int { return int(d.word() % uint64(n)) }

// schema is a right one: mostly of few types.
func (d *drawer) schema() api.Schema {
	s := make(api.Schema, 1+min(d.below(8), d.below(8)))
	for t := range s {
		for range 1 + d.below(6) {
			f := api.Field{Kind: 1 + d.below(5)}
			if f.Kind >= api.One {
				f.Type = d.below(len(s))
			}
			s[t] = append(s[t], f)
		}
	}
	return s
}

// value is a right struct of type t, so many deep at the most, with little in it.
func (d *drawer) value(s api.Schema, t, depth int) api.Tree {
	var v api.Tree
	for _, f := range s[t] {
		var has api.Tree
		switch f.Kind {
		case api.Num:
			has.Num = d.word() >> d.below(65)
		case api.Bytes:
			some := make([]byte, d.below(2)*d.below(41))
			for i := range some {
				some[i] = byte(d.below(256))
			}
			has.Bytes = string(some)
		case api.Nums:
			for range d.below(2) * d.below(13) {
				has.Nums = append(has.Nums, d.word())
			}
		case api.One, api.Many:
			most := []int{1, 1, 3, 12}[d.below(4)]
			if f.Kind == api.One {
				most = 1
			}
			for range min(d.below(most+1), (depth-1)*most) {
				has.Kids = append(has.Kids, d.value(s, f.Type, depth-1))
			}
		}
		v.Kids = append(v.Kids, has)
	}
	return v
}

// built is a message that was built, and its schema.
type built struct {
	s     api.Schema
	words []uint64
}

// messages are many that were built: of drawn schemas, and of one that has all kinds and can be deep.
func messages(t *testing.T, count int) []built {
	t.Helper()
	d := &drawer{}
	broad := api.Schema{{num(), bytes(), nums(), one(1), many(2)}, {many(0), num()}, {bytes(), one(2), nums()}}
	var all []built
	for len(all) < count {
		s := broad
		if len(all)%3 > 0 {
			s = d.schema()
		}
		ty := d.below(len(s))
		v := d.value(s, ty, 1+d.below(5))
		if tree.Size(s, ty, v) > 200 {
			continue
		}
		words, err := build.Build(s, ty, v)
		if err != nil {
			t.Fatalf("Build(%v, %d, %v): %v", s, ty, v, err)
		}
		all = append(all, built{s, words})
	}
	return all
}

// atLeast asks whether each of these codes was told often enough for the test to mean something.
func atLeast(t *testing.T, codes map[api.Errno]int, least int, wanted ...api.Errno) {
	t.Helper()
	for _, code := range wanted {
		if codes[code] < least {
			t.Errorf("%v was told %d times: too few to tell", code, codes[code])
		}
	}
}

// P8.3: what was built is right, and all of it is claimed but the first word.

func TestBuiltIsRight(t *testing.T) {
	longest, deepest := 0, 0
	for _, m := range messages(t, 6000) {
		checkTold(t, m.s, m.words, right(len(m.words)-1))
		longest = max(longest, len(m.words))
		deepest = max(deepest, schema.Deep(m.s, int(m.words[0]>>32)))
	}
	if longest < 190 || deepest != 6 {
		t.Errorf("at most %d words, and of types %d deep: too few to tell", longest, deepest)
	}
}

// Messages of each length up to the greatest one.
func TestBuiltOfAllLengths(t *testing.T) {
	s := api.Schema{{many(1), bytes()}, {nums(), nums()}}
	for size := 27; size <= 200; size++ {
		rest := size - 27
		numbers := func() api.Tree {
			n := min(rest, 12)
			rest -= n
			return api.Tree{Nums: slices.Repeat([]uint64{math.MaxUint64}, n)}
		}
		var inner []api.Tree
		for range 12 {
			inner = append(inner, api.Tree{Kids: []api.Tree{numbers(), numbers()}})
		}
		words, err := build.Build(s, 0, api.Tree{Kids: []api.Tree{{Kids: inner}, {}}})
		if err != nil || len(words) != size {
			t.Fatalf("Build: %d words, want %d, %v", len(words), size, err)
		}
		checkTold(t, s, words, right(size-1))
	}
}

// P8.1, P8.2: messages that were built, and of which a word was changed.

// bends are words like w, most of them no longer right where it was.
func bends(w uint64) []uint64 {
	offset, n := w%(1<<32), w>>32
	all := []uint64{0, w + 1, w - 1, w + 1<<32, w - 1<<32, math.MaxUint64, n<<32 + n, offset<<32 + offset,
		ref(0, n), ref(offset, 0), ref(1, n), ref(offset, 1), ref(offset, 12), ref(offset, 13), ref(offset, 40), ref(offset, 41)}
	for bit := range 64 {
		if bit%32 < 7 || bit%8 == 7 {
			all = append(all, w^1<<bit)
		}
	}
	return all
}

func TestBentWords(t *testing.T) {
	codes := map[api.Errno]int{}
	for _, m := range messages(t, 400) {
		for at := range m.words {
			for _, w := range bends(m.words[at]) {
				words := slices.Clone(m.words)
				words[at] = w
				codes[checkChapter(t, m.s, words)]++
			}
		}
	}
	atLeast(t, codes, 2000, api.OK, api.ErrForm, api.ErrOver, api.ErrRange)
}

// The same, of messages that have words to spare, so that more can be claimed ahead of a trouble.
func TestBentWordsWithRoom(t *testing.T) {
	codes := map[api.Errno]int{}
	for _, m := range messages(t, 200) {
		long := padded(min(len(m.words)+1+len(m.words)/8, 200), m.words)
		for at := 1; at < len(m.words); at++ {
			for _, w := range bends(m.words[at]) {
				words := slices.Clone(long)
				words[at] = w
				codes[checkChapter(t, m.s, words)]++
			}
		}
	}
	atLeast(t, codes, 100, api.OK, api.ErrForm, api.ErrOver, api.ErrRange)
}

// Messages that were cut, or went on, with or without the first word saying so; and of other types, and other schemas.
func TestBentMessages(t *testing.T) {
	codes := map[api.Errno]int{}
	all := messages(t, 300)
	for i, m := range all {
		for length := range len(m.words) {
			codes[checkChapter(t, m.s, m.words[:length])]++
			if length > 0 {
				codes[checkChapter(t, m.s, padded(length, m.words[:length]))]++
			}
		}
		for _, more := range []int{1, 2, 60, 201 - len(m.words)} {
			codes[checkChapter(t, m.s, append(slices.Clone(m.words), make([]uint64, more)...))]++
			codes[checkChapter(t, m.s, padded(len(m.words)+more, m.words))]++
		}
		for ty := range uint64(9) {
			words := slices.Clone(m.words)
			words[0] = ref(uint64(len(words)), ty)
			codes[checkChapter(t, m.s, words)]++
		}
		for _, other := range all[:i] {
			codes[checkChapter(t, other.s, m.words)]++
		}
	}
	atLeast(t, codes, 200, api.OK, api.ErrForm, api.ErrOver, api.ErrRange, api.ErrSize)
}

// P8.1 to P8.3: any words.

// All short rows of some words, behind a first one that is right.
func TestAllShortRows(t *testing.T) {
	codes := map[api.Errno]int{}
	some := []uint64{0, 'a', ref(1, 1), ref(2, 1), ref(1, 2), ref(3, 1), ref(0, 1), ref(2, 9)}
	for _, s := range []api.Schema{
		{{one(0)}},
		{{many(0)}},
		{{one(0), many(0)}},
		{{bytes(), one(0)}},
		{{num(), bytes()}},
		{{nums(), many(1)}, {bytes()}},
		{{many(1)}, {one(2), nums()}, {many(0)}},
	} {
		var rows func(words []uint64)
		rows = func(words []uint64) {
			for ty := range s {
				codes[checkChapter(t, s, msg(uint64(ty), words...))]++
			}
			if len(words) < 5 {
				for _, w := range some {
					rows(append(slices.Clip(words), w))
				}
			}
		}
		rows(nil)
	}
	atLeast(t, codes, 5000, api.OK, api.ErrForm, api.ErrOver, api.ErrRange)
}

// likely is a word that may well be a reference.
func likely(d *drawer) uint64 {
	switch d.below(24) {
	case 0:
		return d.word() >> d.below(65)
	case 1:
		return ref(uint64(d.below(3)), d.word()%50)
	case 2, 3, 4, 5, 6, 7, 8:
		return ref(uint64(1+d.below(20)), 1)
	case 9:
		return ref(uint64(1+d.below(60)), uint64(1+d.below(12)))
	}
	return 0
}

func TestDrawnRows(t *testing.T) {
	codes := map[api.Errno]int{}
	d := &drawer{}
	for range 60000 {
		s := d.schema()
		words := make([]uint64, 1+min(d.below(200), d.below(200)))
		for i := range words {
			words[i] = likely(d)
		}
		words[0] = ref(uint64(len(words)), uint64(d.below(len(s))))
		codes[checkChapter(t, s, words)]++
	}
	atLeast(t, codes, 500, api.OK, api.ErrForm, api.ErrOver, api.ErrRange)
}

// Words of which nothing is known, not even the first one; schemas that may not be right.
func TestWildRows(t *testing.T) {
	d := &drawer{}
	for range 20000 {
		s := d.schema()
		if d.below(4) == 0 {
			s[d.below(len(s))][0] = api.Field{Kind: d.below(8) - 1, Type: d.below(10) - 1}
		}
		words := make([]uint64, d.below(220))
		for i := range words {
			words[i] = d.word() >> d.below(65)
		}
		checkChapter(t, s, words)
		if len(words) > 0 {
			words[0] = uint64(len(words))
			checkChapter(t, s, words)
		}
	}
}

// What lies behind the words, in a longer row, is not looked at.
func TestLongerRows(t *testing.T) {
	d := &drawer{}
	for _, m := range messages(t, 500) {
		for range 5 {
			words := slices.Clone(m.words)
			words[d.below(len(words))] = likely(d)
			want := chapter(m.s, words)
			row := append(words, slices.Repeat([]uint64{math.MaxUint64}, 300)...)[:len(words)]
			checkTold(t, m.s, row, want)
		}
	}
}

// R4: the same calls have the same answers, whatever was asked meanwhile.
func TestAgain(t *testing.T) {
	all := messages(t, 300)
	first := make([]int, len(all))
	for i, m := range all {
		first[i] = valid.Visits(m.s, m.words)
		valid.Check(m.s, m.words[1:])
	}
	for i, m := range all {
		if again := valid.Visits(m.s, m.words); again != first[i] {
			t.Fatalf("Visits(%v, %x): %d, and then %d", m.s, m.words, first[i], again)
		}
	}
}
