package heads_test

import (
	"math"
	"slices"
	"strconv"
	"testing"

	"intaglio/api"
	"intaglio/cause"
	"intaglio/heads"
	"intaglio/plan"
)

// checkLists holds List of both classes, and Free, of a right config and so many words as there are to be, against the chapter; and tells the codes of the classes.
func checkLists(t *testing.T, c api.Config, words []uint64) []api.Errno {
	t.Helper()
	s, before := spell(c), slices.Clone(words)
	var codes []api.Errno
	var all told
	for class := range 2 {
		want := s.listed(words, class)
		blocks, err := heads.List(c, words, class)
		check(t, "List of "+strconv.Itoa(class), told{blocks, err}, want)
		if all.err == nil {
			all = told{append(all.blocks, want.blocks...), want.err}
		}
		codes = append(codes, cause.Top(err))
	}
	if all.err != nil {
		all.blocks = nil
	}
	slices.Sort(all.blocks)
	blocks, err := heads.Free(c, words)
	check(t, "Free", told{blocks, err}, all)
	if !slices.Equal(words, before) {
		t.Fatalf("the words %x were changed to %x", before, words)
	}
	return codes
}

// P10.2: lists.

func TestListsAsMade(t *testing.T) {
	all := configs()
	for first := range 13 {
		for second := range 13 {
			all = append(all, config(1+first%8, 1+second%8, 4+first, first, 20+second, second))
		}
	}
	for _, c := range all {
		a, err := plan.Make(c)
		if err != nil {
			t.Fatal(err)
		}
		checkLists(t, c, a.Words())
		for class := range 2 {
			blocks, err := heads.List(c, a.Words(), class)
			check(t, "List as made", told{blocks, err}, told{spell(c).of(class), nil})
		}
	}
}

func TestListsByHand(t *testing.T) {
	// Its heads are the words 3 and 4; those of the blocks 1, 2, 3 the words 16, 21, 26, those of 4 and 5 the words 31 and 38.
	c := config(1, 1, 4, 3, 6, 2)
	at := func(code api.Errno, word int) told { return told{nil, cause.At(cause.New(code), word)} }
	list := func(blocks ...int) told { return told{blocks, nil} }
	const form, over = api.ErrForm, api.ErrOver
	type row map[int]uint64
	for _, v := range []struct {
		what                string
		words               row
		first, second, free told
	}{
		{"no blocks", row{}, list(), list(), list()},
		{"the last one of each", row{3: 3, 4: 5}, list(3), list(5), list(3, 5)},
		{"falling", row{3: 3, 26: 2, 21: 1, 4: 5, 38: 4}, list(3, 2, 1), list(5, 4), list(1, 2, 3, 4, 5)},
		{"to and fro", row{3: 2, 21: 3, 26: 1, 4: 4, 31: 5}, list(2, 3, 1), list(4, 5), list(1, 2, 3, 4, 5)},
		{"the second class alone", row{4: 5, 38: 4}, list(), list(5, 4), list(4, 5)},
		{"behind a list's end", row{3: 2, 16: 3, 26: 9}, list(2), list(), list(2)},
		{"tags", row{3: 0xffffffff00000002, 21: 0x800000003, 4: 1 << 63}, list(2, 3), list(), list(2, 3)},
		{"tags alone", row{3: 0x100000000, 4: 0xffffffff00000000}, list(), list(), list()},
		{"no block, in the head", row{3: 6, 4: 6}, at(form, 3), at(form, 4), at(form, 3)},
		{"far ones, in the head", row{3: math.MaxUint64, 4: 1 << 31}, at(form, 3), at(form, 4), at(form, 3)},
		{"the other class's, in the head", row{3: 4, 4: 3}, at(form, 3), at(form, 4), at(form, 3)},
		{"the other class's, at whose head all is well", row{3: 5, 4: 1}, at(form, 3), at(form, 4), at(form, 3)},
		{"no block, in a block", row{3: 1, 16: 6, 4: 5, 38: 6}, at(form, 16), at(form, 38), at(form, 16)},
		{"the other class's, in a block", row{3: 1, 16: 2, 21: 4, 4: 4, 31: 1}, at(form, 21), at(form, 31), at(form, 21)},
		{"no block, behind all", row{3: 1, 16: 2, 21: 3, 26: 77, 4: 4, 31: 5, 38: 77}, at(form, 26), at(form, 38), at(form, 26)},
		{"the other class's, behind all", row{3: 1, 16: 2, 21: 3, 26: 5, 4: 4, 31: 5, 38: 1}, at(form, 26), at(form, 38), at(form, 26)},
		{"of itself", row{3: 1, 16: 1, 4: 5, 38: 5}, at(over, 16), at(over, 38), at(over, 16)},
		{"the last one of itself", row{3: 1, 16: 2, 21: 3, 26: 3, 4: 4, 31: 5, 38: 5}, at(over, 26), at(over, 38), at(over, 26)},
		{"round two", row{3: 1, 16: 2, 21: 1, 4: 4, 31: 5, 38: 4}, at(over, 16), at(over, 38), at(over, 16)},
		{"round two, the other way", row{3: 2, 16: 2, 21: 1, 4: 5, 31: 5, 38: 4}, at(over, 21), at(over, 31), at(over, 21)},
		{"round all", row{3: 1, 16: 2, 21: 3, 26: 1}, at(over, 26), list(), at(over, 26)},
		{"round the last two", row{3: 1, 16: 2, 21: 3, 26: 2}, at(over, 26), list(), at(over, 26)},
		{"round, with tags", row{3: 3<<32 + 2, 21: 4<<32 + 2, 4: 1<<63 + 4, 31: 1<<62 + 4}, at(over, 21), at(over, 31), at(over, 21)},
		{"the second class's trouble", row{3: 3, 26: 1, 4: 4, 31: 4}, list(3, 1), at(over, 31), at(over, 31)},
		{"the second class's other trouble", row{3: 3, 26: 1, 4: 4, 31: 3}, list(3, 1), at(form, 31), at(form, 31)},
		{"the first class's trouble ahead of the second one's", row{3: 1, 16: 1, 4: 1}, at(over, 16), at(form, 4), at(over, 16)},
	} {
		words := make([]uint64, 45)
		for i, w := range v.words {
			words[i] = w
		}
		for class, want := range []told{v.first, v.second} {
			blocks, err := heads.List(c, words, class)
			check(t, v.what+": List of "+strconv.Itoa(class), told{blocks, err}, want)
		}
		blocks, err := heads.Free(c, words)
		check(t, v.what+": Free", told{blocks, err}, v.free)
		checkLists(t, c, words)
	}
}

func TestClassesWithoutBlocks(t *testing.T) {
	none, high, low := config(1, 1, 4, 0, 5, 0), config(1, 1, 4, 0, 5, 1), config(1, 1, 4, 1, 5, 0)
	for _, v := range []struct {
		what  string
		c     api.Config
		at    int
		w     uint64
		class int
		want  told
	}{
		{"no block, and none is there", none, 3, 0, 0, told{}},
		{"no block, and a tag", none, 4, 7 << 32, 1, told{}},
		{"no block, and one is named", none, 3, 1, 0, told{nil, cause.At(cause.New(api.ErrForm), 3)}},
		{"no block, and one is named in the second", none, 4, 1, 1, told{nil, cause.At(cause.New(api.ErrForm), 4)}},
		{"the other class's only one", high, 3, 1, 0, told{nil, cause.At(cause.New(api.ErrForm), 3)}},
		{"the only one is the second class's", high, 4, 1, 1, told{[]int{1}, nil}},
		{"the only one is the first class's", low, 3, 1, 0, told{[]int{1}, nil}},
		{"the first class's only one", low, 4, 1, 1, told{nil, cause.At(cause.New(api.ErrForm), 4)}},
		{"behind the first class's only one", low, 4, 2, 1, told{nil, cause.At(cause.New(api.ErrForm), 4)}},
	} {
		words := make([]uint64, plan.Size(v.c))
		words[v.at] = v.w
		blocks, err := heads.List(v.c, words, v.class)
		check(t, v.what, told{blocks, err}, v.want)
		checkLists(t, v.c, words)
	}
}

// All that the words of two small classes may be, up to a number that is no block.
func TestAllSmallLists(t *testing.T) {
	c := config(1, 1, 4, 2, 5, 2)
	s := spell(c)
	places := []int{3, s.word[1], s.word[2], 4, s.word[3], s.word[4]}
	words := make([]uint64, s.size)
	var fill func(i int)
	fill = func(i int) {
		if i == len(places) {
			checkLists(t, c, words)
			return
		}
		for number := range uint64(6) {
			words[places[i]] = number
			fill(i + 1)
		}
	}
	fill(0)
}

// All that the words of one class of three blocks may be.
func TestAllListsOfThree(t *testing.T) {
	for class := range 2 {
		counts := [2]int{1, 1}
		counts[class] = 3
		c := config(1, 1, 4, counts[0], 5, counts[1])
		s := spell(c)
		words := make([]uint64, s.size)
		places := []int{3 + class}
		for _, b := range s.of(class) {
			places = append(places, s.word[b])
		}
		for n := range 6 * 6 * 6 * 6 {
			for _, at := range places {
				words[at] = uint64(n % 6)
				n /= 6
			}
			checkLists(t, c, words)
		}
	}
}

// Lists that are drawn, with one word, or none, that is not what it should be, and with all else drawn, too.
func TestDrawnLists(t *testing.T) {
	d := &drawer{}
	codes := map[api.Errno]int{}
	longest := 0
	for range 20000 {
		c := configs()[d.below(len(configs()))]
		s := spell(c)
		first, second := d.some(s.of(0)), d.some(s.of(1))
		words := s.row(first, second)
		for i := range words {
			if i != 3 && i != 4 && !isHeadOf(s, i) {
				words[i] = d.word()
			}
			words[i] += uint64(d.below(3)) * (d.word() >> 32 << 32)
		}
		blocks, err := heads.List(c, words, 0)
		check(t, "List of 0", told{blocks, err}, told{first, nil})
		blocks, err = heads.List(c, words, 1)
		check(t, "List of 1", told{blocks, err}, told{second, nil})
		longest = max(longest, len(first), len(second))
		bend(d, s, words)
		for _, code := range checkLists(t, c, words) {
			codes[code]++
		}
	}
	for _, code := range []api.Errno{api.OK, api.ErrForm, api.ErrOver} {
		if codes[code] < 1000 {
			t.Errorf("%v was told %d times: too few to tell", code, codes[code])
		}
	}
	if longest < 12 {
		t.Errorf("the longest list has %d blocks: too few to tell", longest)
	}
}

// isHeadOf asks whether a word is a block's head.
func isHeadOf(s spelled, word int) bool {
	for _, at := range s.word {
		if at == word {
			return true
		}
	}
	return false
}

// bend puts another number into a word that has a head, a class's or a block's.
func bend(d *drawer, s spelled, words []uint64) {
	at := 3 + d.below(2)
	if blocks := len(s.word); blocks > 0 && d.below(4) > 0 {
		at = s.word[1+d.below(blocks)]
	}
	numbers := []uint64{0, 1, uint64(len(s.word)), uint64(len(s.word) + 1), 1 << 31, math.MaxUint32, uint64(at), d.word()}
	for b := range s.word {
		numbers = append(numbers, uint64(b), uint64(b))
	}
	slices.Sort(numbers)
	words[at] = words[at]>>32<<32 + numbers[d.below(len(numbers))]%(1<<32)
}

// Any words at all.
func TestAnyWords(t *testing.T) {
	d := &drawer{}
	for _, c := range configs() {
		s := spell(c)
		for _, most := range []uint64{1, 2, 3, 6, 13, 25, 26, math.MaxUint32, math.MaxUint64} {
			for range 100 {
				words := make([]uint64, s.size)
				for i := range words {
					words[i] = d.word() % most
				}
				checkLists(t, c, words)
			}
		}
		for _, w := range []uint64{0, 1, 2, 24, 25, math.MaxUint64, 1 << 32, 1<<32 + 1, math.MaxUint32, 1 << 31, 1 << 63} {
			checkLists(t, c, slices.Repeat([]uint64{w}, s.size))
		}
	}
}

// Upper halves say nothing, whatever they are, in the head and in the blocks.
func TestUpperHalves(t *testing.T) {
	c := config(1, 1, 4, 12, 5, 12)
	s := spell(c)
	words := s.row(s.of(0), s.of(1))
	want := slices.Concat(s.of(0), s.of(1))
	for bit := 32; bit < 64; bit++ {
		for b := range 25 {
			at := s.word[b]
			if b == 0 {
				at = 3
			}
			words[at] ^= 1 << bit
			blocks, err := heads.Free(c, words)
			check(t, "Free", told{blocks, err}, told{want, nil})
		}
	}
	// Each bit of the lower halves says something.
	for bit := range 32 {
		for b := range 25 {
			bent := slices.Clone(words)
			at := 3
			if b > 0 {
				at = s.word[b]
			}
			bent[at] ^= 1 << bit
			checkLists(t, c, bent)
			if blocks, err := heads.Free(c, bent); err == nil && slices.Equal(blocks, want) {
				t.Errorf("bit %d of word %d says nothing", bit, at)
			}
		}
	}
}

// P10.3: a list has no block twice, and none that is not the class's: each one that is told is so.
func TestAToldListHasNoBlockTwice(t *testing.T) {
	d := &drawer{}
	lists, longest := 0, 0
	for range 200000 {
		c := config(1, 1, 4, 1+d.below(4), 5, 1+d.below(4))
		s := spell(c)
		words := make([]uint64, s.size)
		words[3], words[4] = uint64(d.below(6)), uint64(d.below(9))
		for _, at := range s.word {
			words[at] = uint64(d.below(9))
		}
		for class := range 2 {
			blocks, err := heads.List(c, words, class)
			if err != nil {
				continue
			}
			lists, longest = lists+1, max(longest, len(blocks))
			seen := map[int]bool{}
			for _, b := range blocks {
				if seen[b] || s.class[b] != class || s.word[b] == 0 {
					t.Fatalf("List of %d: %v", class, blocks)
				}
				seen[b] = true
			}
		}
	}
	if lists < 10000 || longest < 4 {
		t.Errorf("%d lists, of at most %d blocks: too few to tell", lists, longest)
	}
}

// Wrong inputs.

// rows are words of each length that is near to what the config's arena has, and far from it; some have lists that are not right.
func rows(size int) [][]uint64 {
	all := [][]uint64{nil, {}}
	for _, length := range []int{1, 3, 4, 5, size - 1, size, size + 1, size + 100, api.MaxArena} {
		for _, w := range []uint64{0, 1, math.MaxUint64} {
			if length >= 0 {
				all = append(all, slices.Repeat([]uint64{w}, length))
			}
		}
	}
	return all
}

func TestWrongConfigs(t *testing.T) {
	for _, c := range wrongConfigs() {
		for _, words := range rows(plan.Size(config(1, 1, 4, 2, 8, 1))) {
			for _, class := range append(wrongClasses(), 0, 1) {
				blocks, err := heads.List(c, words, class)
				check(t, "List of a wrong config", told{blocks, err}, told{nil, cause.New(api.ErrArg)})
			}
			blocks, err := heads.Free(c, words)
			check(t, "Free of a wrong config", told{blocks, err}, told{nil, cause.New(api.ErrArg)})
		}
	}
}

func TestWrongClasses(t *testing.T) {
	for _, c := range configs() {
		for _, words := range rows(plan.Size(c)) {
			for _, class := range wrongClasses() {
				blocks, err := heads.List(c, words, class)
				check(t, "List of no class", told{blocks, err}, told{nil, cause.New(api.ErrArg)})
			}
		}
	}
}

func TestWrongRows(t *testing.T) {
	for _, c := range configs() {
		size := spell(c).size
		for _, words := range rows(size) {
			if len(words) == size {
				continue
			}
			for class := range 2 {
				blocks, err := heads.List(c, words, class)
				check(t, "List of other words", told{blocks, err}, told{nil, cause.New(api.ErrRange)})
			}
			blocks, err := heads.Free(c, words)
			check(t, "Free of other words", told{blocks, err}, told{nil, cause.New(api.ErrRange)})
		}
	}
}

// Made words that have one too few, though there would be room, or one too many.
func TestRowsCutAndGoneOn(t *testing.T) {
	for _, c := range configs() {
		a, err := plan.Make(c)
		if err != nil {
			t.Fatal(err)
		}
		words := a.Words()
		for length := range len(words) {
			blocks, err := heads.Free(c, words[:length])
			check(t, "Free of a cut row", told{blocks, err}, told{nil, cause.New(api.ErrRange)})
		}
		blocks, err := heads.List(c, append(words, 0), 1)
		check(t, "List of a row that goes on", told{blocks, err}, told{nil, cause.New(api.ErrRange)})
	}
}

func TestTroubleTexts(t *testing.T) {
	c := config(1, 1, 4, 3, 6, 2)
	words := make([]uint64, 45)
	words[3], words[4], words[31] = 9, 4, 4
	for _, v := range []struct {
		c     api.Config
		words []uint64
		class int
		want  string
	}{
		{api.Config{}, words, 0, "intaglio: error 1"},
		{c, words, 2, "intaglio: error 1"},
		{c, words[1:], 0, "intaglio: error 23"},
		{c, words, 0, "word 3: intaglio: error 10"},
		{c, words, 1, "word 31: intaglio: error 16"},
	} {
		_, err := heads.List(v.c, v.words, v.class)
		if got := cause.Text(err); got != v.want {
			t.Errorf("the trouble %q, want %q", got, v.want)
		}
	}
}

// R3: what is told is the caller's, and nothing of it is kept.
func TestToldListsAreApart(t *testing.T) {
	c := config(1, 1, 4, 12, 5, 12)
	s := spell(c)
	words := s.row(s.of(0), s.of(1))
	want := slices.Concat(s.of(0), s.of(1))
	for range 3 {
		first, _ := heads.List(c, words, 0)
		second, _ := heads.List(c, words, 1)
		free, _ := heads.Free(c, words)
		check(t, "Free", told{free, nil}, told{want, nil})
		check(t, "List", told{slices.Concat(first, second), nil}, told{want, nil})
		for _, all := range [][]int{first, second, free} {
			clear(all)
			_ = append(all, 77)
		}
	}
}
