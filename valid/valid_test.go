package valid_test

import (
	"math"
	"slices"
	"testing"

	"intaglio/api"
	"intaglio/cause"
	"intaglio/schema"
	"intaglio/valid"
)

// Fields of a schema.
func num() api.Field       { return api.Field{Kind: api.Num} }
func bytes() api.Field     { return api.Field{Kind: api.Bytes} }
func nums() api.Field      { return api.Field{Kind: api.Nums} }
func one(t int) api.Field  { return api.Field{Kind: api.One, Type: t} }
func many(t int) api.Field { return api.Field{Kind: api.Many, Type: t} }

// ref is a reference to n things, so many words behind it.
func ref(offset, n uint64) uint64 { return n<<32 + offset }

// msg is the words of a message of type t: its first word, and the others.
func msg(t uint64, others ...uint64) []uint64 {
	return append([]uint64{t<<32 + uint64(len(others)) + 1}, others...)
}

// padded is the words, and 0 behind them, all in all so many; the first one says how many.
func padded(size int, words []uint64) []uint64 {
	out := append(slices.Clone(words), make([]uint64, size-len(words))...)
	out[0] = out[0]>>32<<32 + uint64(size)
	return out
}

// nowhere is the word of a trouble that is at none.
const nowhere = -1

// told is what is told of words: a code, at which word, and how many were claimed.
type told struct {
	code          api.Errno
	word, claimed int
}

// trouble is told's trouble.
func (a told) trouble() error {
	if a.word == nowhere {
		return cause.New(a.code)
	}
	return cause.At(cause.New(a.code), a.word)
}

// right is what is told of right words.
func right(claimed int) told { return told{api.OK, nowhere, claimed} }

// todo is a field that is still to be visited.
type todo struct {
	word  uint64
	field api.Field
	depth int
}

// chapter is what the chapter says of the words, spelled out another way: no call is within another one, what is to be visited lies in a row; words are claimed one by one.
func chapter(s api.Schema, words []uint64) told {
	all := uint64(len(words))
	if schema.Check(s) != nil {
		return told{api.ErrArg, nowhere, 0}
	}
	if all < 1 || all > 200 {
		return told{api.ErrSize, nowhere, 0}
	}
	if words[0]%(1<<32) != all || words[0]/(1<<32) >= uint64(len(s)) {
		return told{api.ErrForm, 0, 0}
	}
	claimed := uint64(0)
	claim := func(from, count uint64) (code api.Errno) {
		for i := range count {
			claimed++
			if from+i >= all {
				code = api.ErrRange
			}
		}
		if code == api.OK && claimed >= all {
			code = api.ErrOver
		}
		return code
	}
	var next []todo
	toVisit := func(from uint64, fields []api.Field, count, depth int) {
		var more []todo
		for i, f := range slices.Repeat(fields, count) {
			more = append(more, todo{from + uint64(i), f, depth})
		}
		next = append(more, next...)
	}
	first := s[words[0]/(1<<32)]
	if code := claim(1, uint64(len(first))); code != api.OK {
		return told{code, 0, int(claimed)}
	}
	toVisit(1, first, 1, 1)
	for len(next) > 0 {
		now := next[0]
		next = next[1:]
		w := words[now.word]
		offset, n := w%(1<<32), w/(1<<32)
		if now.field.Kind == 1 || w == 0 {
			continue
		}
		code := api.OK
		if offset < 1 || n < 1 || n > [6]uint64{0, 0, 40, 12, 1, 12}[now.field.Kind] {
			code = api.ErrForm
		} else if now.field.Kind == 2 {
			code = claim(now.word+offset, (n+7)/8)
			for i := n; code == api.OK && i%8 != 0; i++ {
				if words[now.word+offset+i/8]/(1<<(i%8*8))%256 != 0 {
					code = api.ErrForm
				}
			}
		} else if now.field.Kind == 3 {
			code = claim(now.word+offset, n)
		} else if now.depth >= 5 {
			code = api.ErrOver
		} else {
			inner := s[now.field.Type]
			code = claim(now.word+offset, n*uint64(len(inner)))
			toVisit(now.word+offset, inner, int(n), now.depth+1)
		}
		if code != api.OK {
			return told{code, int(now.word), int(claimed)}
		}
	}
	return right(int(claimed))
}

// checkTold holds Check and Visits against what they should tell, and what is handed in against what it was.
func checkTold(t *testing.T, s api.Schema, words []uint64, want told) {
	t.Helper()
	before, types := slices.Clone(words), schema.Pack(s)
	err, visits := valid.Check(s, words), valid.Visits(s, words)
	if err != want.trouble() {
		t.Fatalf("Check(%v, %x): %v, want %v", s, words, err, want.trouble())
	}
	if visits != want.claimed {
		t.Fatalf("Visits(%v, %x): %d, want %d (Check: %v)", s, words, visits, want.claimed, err)
	}
	if visits > len(words)+240 {
		t.Fatalf("Visits(%v, %x): %d, more than the words and 240", s, words, visits)
	}
	if !slices.Equal(words, before) || !slices.Equal(schema.Pack(s), types) {
		t.Fatalf("%x of %v was changed", before, s)
	}
}

// checkChapter holds what is told against the chapter, and tells the code.
func checkChapter(t *testing.T, s api.Schema, words []uint64) api.Errno {
	t.Helper()
	want := chapter(s, words)
	checkTold(t, s, words, want)
	return want.code
}

// hand is words by hand, and what is told of them.
type hand struct {
	what  string
	s     api.Schema
	words []uint64
	want  told
}

func checkAll(t *testing.T, all []hand) {
	t.Helper()
	for _, c := range all {
		t.Run(c.what, func(t *testing.T) {
			checkTold(t, c.s, c.words, c.want)
			if got := chapter(c.s, c.words); got != c.want {
				t.Errorf("the tests' own chapter tells %v, want %v", got, c.want)
			}
		})
	}
}

func form(word, claimed int) told    { return told{api.ErrForm, word, claimed} }
func over(word, claimed int) told    { return told{api.ErrOver, word, claimed} }
func outside(word, claimed int) told { return told{api.ErrRange, word, claimed} }

func TestExample(t *testing.T) {
	s := api.Schema{{num(), nums()}}
	if err := valid.Check(s, []uint64{5, 7, 0x200000001, 5, 6}); err != nil {
		t.Errorf("Check: %v", err)
	}
	if got := valid.Visits(s, []uint64{5, 7, 0x200000001, 5, 6}); got != 4 {
		t.Errorf("Visits: %d", got)
	}
}

// Troubles are told as chapter 1 tells them.
func TestTexts(t *testing.T) {
	s := api.Schema{{bytes(), one(0)}}
	for _, c := range []struct {
		s     api.Schema
		words []uint64
		want  string
	}{
		{s, msg(0, 0, 0), ""},
		{nil, msg(0, 0, 0), "intaglio: error 1"},
		{s, nil, "intaglio: error 21"},
		{s, []uint64{7}, "word 0: intaglio: error 10"},
		{s, msg(0, 0), "word 0: intaglio: error 23"},
		{s, msg(0, ref(1, 0), 0), "word 1: intaglio: error 10"},
		{s, msg(0, ref(2, 1), 0), "word 1: intaglio: error 23"},
		{s, msg(0, ref(1, 1), 0), "word 1: intaglio: error 16"},
	} {
		err := valid.Check(c.s, c.words)
		if got := cause.Text(err); got != c.want {
			t.Errorf("Check(%v, %x): %q, want %q", c.s, c.words, got, c.want)
		}
	}
}

// P8.1, P8.2: what is looked at ahead of all structs.

func TestSchemasThatAreNotRight(t *testing.T) {
	wrong := []api.Schema{nil, {}, {nil}, {{num()}, {}}, {{{Kind: 0}}}, {{{Kind: 6}}}, {{{Kind: -1}}},
		{{{Kind: api.Num, Type: 1}}, {num()}}, {{one(1)}}, {{many(-1)}}, {slices.Repeat([]api.Field{num()}, 7)},
		slices.Repeat(api.Schema{{num()}}, 9), {{num()}, {one(2)}}}
	for _, s := range wrong {
		for _, words := range [][]uint64{nil, {}, {0}, {1}, {9}, msg(0, 0), msg(0, ref(0, 1)), msg(8, 0), make([]uint64, 201), padded(200, msg(0)), padded(201, msg(0))} {
			checkTold(t, s, words, told{api.ErrArg, nowhere, 0})
		}
	}
}

func TestHowManyWords(t *testing.T) {
	size := told{api.ErrSize, nowhere, 0}
	s := api.Schema{{num()}}
	checkAll(t, []hand{
		{"no words (nil)", s, nil, size},
		{"no words", s, []uint64{}, size},
		{"one word", s, msg(0), outside(0, 1)},
		{"two words", s, msg(0, 9), right(1)},
		{"200 words", s, padded(200, msg(0)), right(1)},
		{"201 words", s, padded(201, msg(0)), size},
		{"201 words, the first one says 200", s, append(padded(200, msg(0)), 0), size},
		{"201 words, the first one is wrong", s, append(padded(200, msg(9)), 0), size},
		{"200 words, the first one says 201", s, padded(201, msg(0))[:200], form(0, 0)},
		{"5000 words", s, padded(5000, msg(0)), size},
	})
	for length := 2; length < 260; length++ {
		want := right(1)
		if length > 200 {
			want = size
		}
		checkTold(t, s, padded(length, msg(0)), want)
	}
}

func TestFirstWord(t *testing.T) {
	three := api.Schema{{num()}, {nums(), num()}, {num(), num(), num()}}
	eight := slices.Repeat(api.Schema{{num()}}, 8)
	checkAll(t, []hand{
		{"type 0", three, msg(0, 1, 2, 3), right(1)},
		{"type 1", three, msg(1, 0, 2, 3), right(2)},
		{"type 2", three, msg(2, 1, 2, 3), right(3)},
		{"type 3, of three", three, msg(3, 1, 2, 3), form(0, 0)},
		{"type 7", eight, msg(7, 1), right(1)},
		{"type 8", eight, msg(8, 1), form(0, 0)},
		{"the greatest type", eight, msg(math.MaxUint32, 1), form(0, 0)},
		{"type 2^31", eight, msg(1<<31, 1), form(0, 0)},
		{"0", three, []uint64{0, 1, 2, 3}, form(0, 0)},
		{"one word too few", three, []uint64{3, 1, 2, 3}, form(0, 0)},
		{"one word too many", three, []uint64{5, 1, 2, 3}, form(0, 0)},
		{"2^31 words and those", three, []uint64{1<<31 + 4, 1, 2, 3}, form(0, 0)},
		{"as many as can be said", three, []uint64{math.MaxUint32, 1, 2, 3}, form(0, 0)},
		{"all bits", three, []uint64{math.MaxUint64, 1, 2, 3}, form(0, 0)},
		{"halves that changed places", three, []uint64{4 << 32, 1, 2, 3}, form(0, 0)},
		{"wrong in both halves", three, []uint64{3<<32 + 5, 1, 2, 3}, form(0, 0)},
		{"a struct that is a word too long", three, msg(2, 1, 2), outside(0, 3)},
		{"a struct that is two words too long", three, msg(2, 1), outside(0, 3)},
		{"a struct that has no words", three, msg(2), outside(0, 3)},
		{"six fields, and no words", api.Schema{slices.Repeat([]api.Field{num()}, 6)}, msg(0), outside(0, 6)},
		{"ahead of what is in the struct", three, msg(1, ref(0, 13)), outside(0, 2)},
	})
}

// P8.1, P8.2: fields.

// holder is a schema with a field of that kind, alone; structs in it have one number.
func holder(kind int) api.Schema {
	f := api.Field{Kind: kind}
	if kind == api.One || kind == api.Many {
		f.Type = 1
	}
	return api.Schema{{f}, {num()}}
}

// needs is how many words n things take that a field of that kind refers to.
func needs(kind int, n uint64) int {
	if kind == api.Bytes {
		return int(n+7) / 8
	}
	return int(n)
}

func TestEachKind(t *testing.T) {
	for kind, most := range map[int]uint64{api.Bytes: 40, api.Nums: 12, api.One: 1, api.Many: 12} {
		s := holder(kind)
		check := func(word uint64, size int, want told) {
			t.Helper()
			words := padded(size, msg(0, word))
			checkTold(t, s, words, want)
			checkChapter(t, s, words)
		}
		check(0, 2, right(1))
		check(0, 200, right(1))
		for _, n := range []uint64{1, most, most + 1, 100, math.MaxUint32} {
			check(ref(0, n), 200, form(1, 1)) // an offset 0
		}
		for _, offset := range []uint64{1, 198, 199, 1 << 31, math.MaxUint32} {
			check(ref(offset, 0), 200, form(1, 1)) // n 0
			for _, n := range []uint64{most + 1, most + 2, most + 7, most + 8, 2*most + 1, 256 + 1, 1 << 16, 1 << 31, math.MaxUint32} {
				check(ref(offset, n), 200, form(1, 1)) // n above the most
			}
		}
		for n := uint64(1); n <= most; n++ {
			size := needs(kind, n)
			check(ref(1, n), size+2, right(size+1))
			check(ref(1, n), size+1, outside(1, size+1))
			check(ref(1, n), 200, right(size+1))
			check(ref(uint64(199-size), n), 200, right(size+1))
			check(ref(uint64(200-size), n), 200, outside(1, size+1))
			check(ref(199, n), 200, outside(1, size+1))
			check(ref(200, n), 200, outside(1, size+1))
			check(ref(1<<31, n), 200, outside(1, size+1))
			check(ref(math.MaxUint32, n), 200, outside(1, size+1))
		}
	}
}

// A number is right whatever it is.
func TestNumbers(t *testing.T) {
	s := api.Schema{{num(), num()}}
	for _, w := range []uint64{0, 1, ref(0, 1), ref(1, 0), ref(1, 1), ref(1, 41), ref(math.MaxUint32, 1), math.MaxUint64} {
		checkTold(t, s, msg(0, w, w), right(2))
	}
}

// A byte behind the n-th one is not 0: just then it is wrong, and just in the words of the bytes.
func TestBytesBehind(t *testing.T) {
	s := api.Schema{{bytes()}}
	for n := uint64(1); n <= 40; n++ {
		size := needs(api.Bytes, n)
		for at := range uint64(48) {
			for bit := range uint64(8) {
				words := padded(9, msg(0, ref(2, n), math.MaxUint64))
				words[3+at/8] = 1 << (at%8*8 + bit)
				want := right(size + 1)
				if at >= n && at < uint64(size)*8 {
					want = form(1, size+1)
				}
				checkTold(t, s, words, want)
			}
		}
	}
}

// chain is a message of structs so many deep: of so many fields each, the last of which refers to the next struct.
func chain(fields, depth int) []uint64 {
	words := msg(0)
	for i := range depth {
		words = append(words, make([]uint64, fields)...)
		if i < depth-1 {
			words[len(words)-1] = ref(1, 1)
		}
	}
	return padded(len(words), words)
}

func TestDepth(t *testing.T) {
	for _, inner := range []api.Field{one(0), many(0)} {
		for fields := 1; fields <= 6; fields++ {
			s := api.Schema{append(slices.Repeat([]api.Field{bytes()}, fields-1), inner)}
			for depth := 1; depth <= 5; depth++ {
				words := chain(fields, depth)
				checkTold(t, s, words, right(fields*depth))
				checkTold(t, s, padded(100, words), right(fields*depth))
			}
			for depth := 6; depth <= 9; depth++ {
				checkTold(t, s, chain(fields, depth), over(5*fields, 5*fields))
				checkTold(t, s, padded(100, chain(fields, depth)), over(5*fields, 5*fields))
			}
		}
	}
	self := api.Schema{{one(0)}}
	five := func(last uint64) []uint64 {
		return msg(0, ref(1, 1), ref(1, 1), ref(1, 1), ref(1, 1), last, 0)
	}
	checkAll(t, []hand{
		{"five deep, and n 0", self, five(ref(1, 0)), form(5, 5)},
		{"five deep, and an offset 0", self, five(ref(0, 1)), form(5, 5)},
		{"five deep, and n above the most", self, five(ref(1, 2)), form(5, 5)},
		{"five deep, and beyond the end", self, five(ref(2, 1)), over(5, 5)},
		{"five deep, and one more", self, five(ref(1, 1)), over(5, 5)},
		{"five deep, and numbers in it", api.Schema{{one(1)}, {one(2)}, {one(3)}, {one(4)}, {nums()}}, five(ref(1, 1)), right(6)},
		{"five deep, and bytes in it", api.Schema{{one(1)}, {one(2)}, {one(3)}, {one(4)}, {bytes()}}, five(ref(1, 1)), right(6)},
		{"six types", api.Schema{{one(1)}, {one(2)}, {one(3)}, {one(4)}, {one(5)}, {num()}}, five(ref(1, 1)), over(5, 5)},
		{"five types, from the second one on", api.Schema{{one(1)}, {one(2)}, {one(3)}, {one(4)}, {one(5)}, {num()}},
			msg(1, ref(1, 1), ref(1, 1), ref(1, 1), ref(1, 1), 9), right(5)},
		{"one deeper in the one field, and flat in the next one", api.Schema{{one(1), one(1), one(1)}, {num()}},
			msg(0, ref(3, 1), ref(3, 1), ref(3, 1), 1, 2, 3), right(6)},
	})
}

// P8.1, P8.2: what is claimed, and in which order.

func TestClaims(t *testing.T) {
	two := api.Schema{{nums(), nums()}}
	checkAll(t, []hand{
		{"what there is, is claimed", two, msg(0, ref(2, 1), ref(2, 1), 5, 6), right(4)},
		{"what there is, is claimed twice", two, msg(0, ref(2, 2), ref(1, 2), 5, 6), over(2, 6)},
		{"one word is claimed twice, another one not at all", two, msg(0, ref(2, 1), ref(1, 1), 5, 6), right(4)},
		{"one is claimed twice, and all others", two, msg(0, ref(2, 2), ref(1, 1), 5, 6), over(2, 5)},
		{"nothing behind the struct is claimed", two, msg(0, 0, 0, 5, 6), right(2)},
		{"its own struct's word", two, msg(0, ref(1, 1), 0, 9), right(3)},
		{"its own struct's word, that refers to numbers", two, msg(0, ref(1, 1), ref(1, 1), 9, 9), right(4)},
		{"its own struct's word, and no more words", two, msg(0, ref(1, 1), 0), over(1, 3)},
		{"up to the last word", two, msg(0, 0, ref(1, 2), 5, 6), right(4)},
		{"beyond the last word", two, msg(0, 0, ref(1, 3), 5, 6), outside(2, 5)},
		{"beyond the last word, and too many", two, msg(0, ref(2, 2), ref(1, 12), 5, 6), outside(2, 16)},
		{"too many, and not beyond", two, msg(0, ref(2, 2), ref(1, 2), 5, 6), over(2, 6)},
		{"one of 200", two, padded(200, msg(0, ref(198, 1), ref(197, 1))), right(4)},
		{"beyond 200", two, padded(200, msg(0, ref(198, 1), ref(198, 1))), outside(2, 4)},
		{"a reference to itself, as one goes round", two, padded(9, msg(0, 0, ref(math.MaxUint32, 1))), outside(2, 3)},
		{"bytes that are claimed too often, and are not 0 behind", api.Schema{{bytes(), bytes()}}, msg(0, ref(2, 8), ref(1, 7), math.MaxUint64), over(2, 4)},
		{"bytes beyond the end, that are not 0 behind", api.Schema{{bytes()}}, msg(0, ref(1, 9), math.MaxUint64), outside(1, 3)},
		{"structs of two fields", api.Schema{{num(), many(1)}, {num(), num()}}, msg(0, 1, ref(1, 2), 1, 2, 3, 4), right(6)},
		{"structs whose last field is beyond the end", api.Schema{{num(), many(1)}, {num(), num()}}, msg(0, 1, ref(1, 2), 1, 2, 3), outside(2, 6)},
		{"12 structs of 6 fields", api.Schema{{many(1)}, slices.Repeat([]api.Field{num()}, 6)}, padded(74, msg(0, ref(1, 12))), right(73)},
		{"12 structs of 6 fields, a word too few", api.Schema{{many(1)}, slices.Repeat([]api.Field{num()}, 6)}, padded(73, msg(0, ref(1, 12))), outside(1, 73)},
		{"the same structs twice", api.Schema{{many(1), many(1)}, slices.Repeat([]api.Field{num()}, 6)}, padded(75, msg(0, ref(2, 12), ref(1, 12))), over(2, 146)},
	})
}

// As many are claimed as can be: all words but one, and then those of 12 structs of 6 fields.
func TestMostThatIsClaimed(t *testing.T) {
	some := func(fields int) []api.Field { return slices.Repeat([]api.Field{num()}, fields) }
	s := api.Schema{{many(1), many(1), many(2), nums(), nums(), many(1)}, some(6), some(5)}
	claimed := 6 + 12*6 + 12*6 + 5*5 + 12 + 12
	for last, want := range map[uint64]told{
		0:            right(claimed),
		ref(1, 1):    over(6, claimed+6),
		ref(1, 12):   over(6, claimed+72),
		ref(190, 1):  outside(6, claimed+6),
		ref(190, 12): outside(6, claimed+72),
	} {
		words := padded(200, msg(0, ref(6, 12), ref(80, 12), ref(80, 5), ref(80, 12), ref(80, 12), last))
		if claimed != len(words)-1 {
			t.Fatalf("%d of %d words are claimed ahead of the last field", claimed, len(words))
		}
		checkTold(t, s, words, want)
		checkChapter(t, s, words)
	}
}

// What is visited first is told: fields in order, structs in order, and wholly, ahead of the next field.
func TestOrder(t *testing.T) {
	bad := func(n uint64) uint64 { return ref(0, n) }
	s := api.Schema{{many(1), nums(), one(1)}, {nums(), one(2)}, {bytes(), num()}}
	// Words: 0; 1 to 3 the struct; 4 to 7 two structs of type 1; 8, 9 one of type 2; 10, 11 one of type 1; 12, 13 one of type 2; 14 on is free.
	good := func() []uint64 {
		return msg(0, ref(3, 2), ref(12, 2), ref(7, 1), ref(10, 1), ref(3, 1), 0, 0, ref(6, 8), 7, ref(4, 1), ref(1, 1), ref(2, 8), 7, 0, 0, 0)
	}
	claims := 3 + 4 + 1 + 2 + 1 + 2 + 2 + 1 + 2 + 1
	checkTold(t, s, padded(60, good()), right(claims))
	claimed := map[int]int{1: 3, 4: 7, 5: 8, 8: 10, 6: 11, 7: 11, 2: 11, 3: 13, 10: 15, 11: 16, 12: 18}
	order := []int{1, 4, 5, 8, 6, 7, 2, 3, 10, 11, 12}
	for i, first := range order {
		for _, second := range order[i:] {
			words := padded(60, good())
			words[first], words[second] = bad(1), bad(2)
			checkTold(t, s, words, form(first, claimed[first]))
			checkChapter(t, s, words)
		}
	}
}
