package schema_test

import (
	"math"
	"slices"
	"strconv"
	"testing"

	"intaglio/api"
	"intaglio/cause"
	"intaglio/schema"
)

// packed are the chapter's own words, of a right schema: each word's bits as digits, the lowest ones last.
func packed(s api.Schema) []uint64 {
	three := func(n int) string { return strconv.FormatInt(int64(8+n), 2)[1:] }
	var words []uint64
	for _, fields := range s {
		digits := three(len(fields))
		for _, f := range fields {
			digits = three(f.Type) + three(f.Kind) + digits
		}
		w, _ := strconv.ParseUint(digits, 2, 64)
		words = append(words, w)
	}
	return words
}

// spelled is the schema that words say, right or not, and whether they say no more than that.
func spelled(words []uint64) (api.Schema, bool) {
	var s api.Schema
	for _, w := range words {
		n := w % 8
		w /= 8
		var fields []api.Field
		for range n {
			fields = append(fields, api.Field{Kind: int(w % 8), Type: int(w / 8 % 8)})
			w /= 64
		}
		if w != 0 {
			return nil, false
		}
		s = append(s, fields)
	}
	return s, isRight(s)
}

// P5.3: packed.

func TestExample(t *testing.T) {
	s := api.Schema{{num(), many(0)}}
	if got := schema.Pack(s); !slices.Equal(got, []uint64{0xa0a}) {
		t.Errorf("Pack: %x, want a0a", got)
	}
	if got, err := schema.Read([]uint64{0xa0a}); err != nil || !equal(got, s) {
		t.Errorf("Read: %v, %v, want %v", got, err, s)
	}
}

func TestPack(t *testing.T) {
	for _, s := range append(bent(), mixed(500)...) {
		var want []uint64
		if isRight(s) {
			want = packed(s)
		}
		before := clone(s)
		if got := schema.Pack(s); !slices.Equal(got, want) {
			t.Errorf("Pack(%v): %x, want %x", short(s), got, want)
		}
		if !equal(s, before) {
			t.Errorf("Pack changed %v to %v", short(before), short(s))
		}
	}
}

func TestPackByHand(t *testing.T) {
	for _, c := range []struct {
		s    api.Schema
		want []uint64
	}{
		{api.Schema{{num()}}, []uint64{1 + 1<<3}},
		{api.Schema{{one(1)}, {bytes()}}, []uint64{1 + 4<<3 + 1<<6, 1 + 2<<3}},
		{api.Schema{{nums(), one(0), many(2)}, {num()}, {bytes(), many(1)}}, []uint64{3 + 3<<3 + 4<<9 + 5<<15 + 2<<18, 1 + 1<<3, 2 + 2<<3 + 5<<9 + 1<<12}},
		{append(slices.Repeat(api.Schema{{num()}}, 7), slices.Repeat([]api.Field{many(7)}, 6)), []uint64{9, 9, 9, 9, 9, 9, 9, 0o757575757575_6}},
	} {
		if got := schema.Pack(c.s); !slices.Equal(got, c.want) {
			t.Errorf("Pack(%v): %o, want %o", c.s, got, c.want)
		}
		if got, err := schema.Read(c.want); err != nil || !equal(got, c.s) {
			t.Errorf("Read(%o): %v, %v, want %v", c.want, got, err, c.s)
		}
	}
}

// checkRead holds Read against what the words say.
func checkRead(t *testing.T, words []uint64) {
	t.Helper()
	before := slices.Clone(words)
	got, err := schema.Read(words)
	want, right := spelled(words)
	switch {
	case !slices.Equal(words, before):
		t.Errorf("Read changed %x to %x", before, words)
	case right && (err != nil || !equal(got, want)):
		t.Errorf("Read(%x): %v, %v, want %v", words, got, err, want)
	case !right && (err != cause.New(api.ErrForm) || len(got) != 0):
		t.Errorf("Read(%x): %v, %v, want ErrForm", words, got, err)
	}
}

// All words of up to two fields, with some bits behind them, alone and ahead of another type.
func TestReadOfAllShortWords(t *testing.T) {
	for w := range uint64(1 << 16) {
		checkRead(t, []uint64{w})
		checkRead(t, []uint64{w, 9})
		checkRead(t, []uint64{9, w})
	}
}

// Right words, with each of their bits turned round, and each pair of one word's.
func TestReadOfTurnedBits(t *testing.T) {
	for _, s := range rights() {
		words := packed(s)
		for i := range words {
			for a := range 64 {
				for b := range a + 1 {
					turned := slices.Clone(words)
					turned[i] ^= 1 << a
					checkRead(t, turned)
					turned[i] ^= 1 << b
					checkRead(t, turned)
				}
			}
		}
	}
}

// Right words, fewer of them, and more.
func TestReadOfOtherRows(t *testing.T) {
	for _, s := range rights() {
		words := packed(s)
		for i := range words {
			checkRead(t, words[:i])
			checkRead(t, words[i:])
		}
		for _, more := range []uint64{0, 1, 9, math.MaxUint64} {
			for n := range 10 {
				checkRead(t, append(slices.Clone(words), slices.Repeat([]uint64{more}, n)...))
			}
		}
	}
}

func TestReadByHand(t *testing.T) {
	form := cause.New(api.ErrForm)
	for what, words := range map[string][]uint64{
		"nothing":                         nil,
		"no words":                        {},
		"a word 0":                        {0},
		"no fields, but a kind":           {1 << 3},
		"a field without a kind":          {1},
		"kind 6":                          {1 + 6<<3},
		"kind 7":                          {1 + 7<<3},
		"Num of type 1":                   {1 + 1<<3 + 1<<6, 9},
		"Many of a type that there's not": {1 + 5<<3 + 1<<6},
		"seven fields":                    {7 + 0o01010101010101<<3},
		"a bit behind the fields":         {9 + 1<<9},
		"the highest bit":                 {9 + 1<<63},
		"the bit behind six fields":       {6 + 0o010101010101<<3 + 1<<39},
		"all bits":                        {math.MaxUint64},
		"nine words":                      slices.Repeat([]uint64{9}, 9),
		"a word 0 behind a right one":     {9, 0},
		"very many words":                 slices.Repeat([]uint64{9}, 1<<20),
	} {
		if s, err := schema.Read(words); err != form || len(s) != 0 {
			t.Errorf("%s: Read tells %v, %v, want ErrForm", what, s, err)
		}
	}
	if s, err := schema.Read(slices.Repeat([]uint64{9}, 8)); err != nil || len(s) != 8 {
		t.Errorf("eight words: Read tells %v, %v", s, err)
	}
	if s, err := schema.Read([]uint64{6 + 0o010101010101<<3}); err != nil || schema.Fields(s, 0) != 6 {
		t.Errorf("six fields: Read tells %v, %v", s, err)
	}
}

// P5.4: what was packed is read.
func TestPackedIsRead(t *testing.T) {
	for _, s := range append(bent(), mixed(2000)...) {
		if !isRight(s) {
			continue
		}
		got, err := schema.Read(schema.Pack(s))
		if err != nil || !equal(got, s) {
			t.Errorf("Read(Pack(%v)): %v, %v", s, got, err)
		}
	}
}

// R3: what is told is the caller's; no two rows of it share memory.
func TestToldIsTheCallers(t *testing.T) {
	s := greatest()
	words := schema.Pack(s)
	read, _ := schema.Read(words)
	for i := range words {
		words[i] = 0
	}
	for n := range read {
		_ = append(read[n], num())
		read[n][0] = api.Field{Kind: 9, Type: 9}
		for k := range read {
			if (read[k][0].Kind == 9) != (k <= n) || read[k][1] != num() {
				t.Fatalf("types %d and %d share memory", n, k)
			}
		}
	}
	if !equal(s, greatest()) {
		t.Error("what was told shares memory with the schema")
	}
	if again, err := schema.Read(schema.Pack(s)); err != nil || !equal(again, s) {
		t.Error("what was told is told otherwise behind a change of an earlier answer")
	}
}
