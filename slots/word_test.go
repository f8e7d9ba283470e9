package slots_test

import (
	"math"
	"slices"
	"testing"

	"intaglio/api"
	"intaglio/slots"
)

// P12.1: words.

func TestExample(t *testing.T) {
	if client, block := slots.Client(0x300000007), slots.Block(0x300000007); client != 2 || block != 7 {
		t.Errorf("300000007 is of client %d, block %d, want 2, 7", client, block)
	}
	if w := slots.Mark(2, 7); w != 0x300000007 {
		t.Errorf("the mark of client 2, and block 7, is %x, want 300000007", w)
	}
}

func TestMark(t *testing.T) {
	for _, v := range []struct {
		client, block int
		want          uint64
	}{
		{0, 0, 0x100000000},
		{0, 1, 0x100000001},
		{1, 0, 0x200000000},
		{7, 24, 0x800000018},
		{0, 1<<31 - 1, 0x17fffffff},
		{0, 1 << 31, 0x180000000},
		{0, 1<<32 - 1, 0x1ffffffff},
		{1<<31 - 2, 0, 0x7fffffff00000000},
		{1<<31 - 1, 0, 0x8000000000000000},
		{1<<32 - 2, 0, 0xffffffff00000000},
		{1<<32 - 2, 1<<32 - 1, 0xffffffffffffffff},
		// Numbers of more than 32 bits: the lowest ones count.
		{0, 1 << 32, 0x100000000},
		{0, 1<<32 + 5, 0x100000005},
		{0, 5<<32 + 6, 0x100000006},
		{0, math.MaxInt, 0x1ffffffff},
		{1<<32 - 1, 5, 5},
		{1 << 32, 5, 0x100000005},
		{1<<32 + 1, 5, 0x200000005},
		{7<<32 + 3, 9<<32 + 4, 0x400000004},
		{math.MaxInt - 1, 5, 0xffffffff00000005},
		{math.MaxInt, 5, 5},
		// Numbers below 0: likewise.
		{-1, 0, 0},
		{-1, 7, 7},
		{-2, 7, 0xffffffff00000007},
		{-3, 7, 0xfffffffe00000007},
		{-1 << 31, 7, 0x8000000100000007},
		{-1 << 32, 7, 0x100000007},
		{-1<<32 - 1, 7, 7},
		{math.MinInt, 7, 0x100000007},
		{math.MinInt + 1, 7, 0x200000007},
		{0, -1, 0x1ffffffff},
		{0, -2, 0x1fffffffe},
		{0, -1 << 31, 0x180000000},
		{0, -1 << 32, 0x100000000},
		{0, -1<<32 + 3, 0x100000003},
		{0, math.MinInt, 0x100000000},
		{0, math.MinInt + 1, 0x100000001},
		{-1, -1, 0xffffffff},
		{-2, -1, 0xffffffffffffffff},
	} {
		if got := slots.Mark(v.client, v.block); got != v.want {
			t.Errorf("Mark(%d, %d): %x, want %x", v.client, v.block, got, v.want)
		}
	}
}

func TestClientAndBlock(t *testing.T) {
	for _, v := range []struct {
		word          uint64
		client, block int
	}{
		{0, -1, 0},
		{1, -1, 1},
		{0x80000000, -1, 1 << 31},
		{0xffffffff, -1, 1<<32 - 1},
		{0x100000000, 0, 0},
		{0x100000001, 0, 1},
		{0x1ffffffff, 0, 1<<32 - 1},
		{0x200000000, 1, 0},
		{0x800000018, 7, 24},
		{0x900000001, 8, 1},
		{0x7fffffff7fffffff, 1<<31 - 2, 1<<31 - 1},
		{0x8000000000000000, 1<<31 - 1, 0},
		{0x8000000080000000, 1<<31 - 1, 1 << 31},
		{0xfffffffe00000002, 1<<32 - 3, 2},
		{0xffffffff00000000, 1<<32 - 2, 0},
		{math.MaxUint64, 1<<32 - 2, 1<<32 - 1},
		{api.Magic, 0x696e7460, 0x676c696f},
	} {
		if client, block := slots.Client(v.word), slots.Block(v.word); client != v.client || block != v.block {
			t.Errorf("%x is of client %d, block %d, want %d, %d", v.word, client, block, v.client, v.block)
		}
	}
}

// What was marked comes back, as far as 32 bits tell it; each word that is somebody's is a mark.
func TestMarksComeBack(t *testing.T) {
	for client := range 9 {
		for block := range 30 {
			w := slots.Mark(client, block)
			if slots.Client(w) != client || slots.Block(w) != block {
				t.Fatalf("Mark(%d, %d) is of client %d, block %d", client, block, slots.Client(w), slots.Block(w))
			}
		}
	}
	d := &drawer{}
	for range 2000 {
		w := d.word() >> d.below(64)
		if got := slots.Mark(slots.Client(w), slots.Block(w)); got != w {
			t.Fatalf("the mark of what %x tells: %x", w, got)
		}
		client, block := int(d.word()), int(d.word())
		if got, want := slots.Mark(client, block), slots.Mark(int(uint32(client)), int(uint32(block))); got != want {
			t.Fatalf("Mark(%d, %d): %x, of the lowest 32 bits %x", client, block, got, want)
		}
	}
}

func TestNamed(t *testing.T) {
	for _, v := range []struct {
		what    string
		inSlots []uint64
		want    []int
	}{
		{"all are free", []uint64{0, 0, 0}, nil},
		{"one names a block", []uint64{0, said(0, 2), 0}, []int{2}},
		{"the first one does", []uint64{said(3, 4), 0, 0}, []int{4}},
		{"the last one does", []uint64{0, 0, said(3, 1)}, []int{1}},
		{"rising", []uint64{said(0, 1), said(0, 2), said(0, 3)}, []int{1, 2, 3}},
		{"falling", []uint64{said(2, 3), said(1, 2), said(0, 1)}, []int{1, 2, 3}},
		{"mixed", []uint64{said(2, 3), said(1, 1), said(0, 2)}, []int{1, 2, 3}},
		{"two name one", []uint64{said(0, 3), said(1, 1), said(2, 3)}, []int{1, 3}},
		{"all name one", []uint64{said(0, 4), said(1, 4), said(1, 4)}, []int{4}},
		{"somebody's, of no block", []uint64{said(0, 0), said(1, 0), said(2, 0)}, nil},
		{"some of no block", []uint64{said(0, 0), said(1, 3), said(2, 0)}, []int{3}},
		{"free, with a block", []uint64{2, 0, 0}, nil},
		{"free, with a block, and somebody's", []uint64{2, said(0, 1), 0xffffffff}, []int{1}},
		{"free, with the same block", []uint64{2, said(0, 2), 2}, []int{2}},
		{"of no block of the config", []uint64{said(0, 5), said(1, 99), said(2, 1<<31)}, []int{5, 99, 1 << 31}},
		{"of no client of the config", []uint64{said(4, 2), said(1<<31, 1), said(1<<32-2, 3)}, []int{1, 2, 3}},
		{"all bits", []uint64{math.MaxUint64, 0x8000000000000000, 0x8000000000000001}, []int{1, 1<<32 - 1}},
		{"blocks that differ in high bits alone", []uint64{said(0, 1<<31+1), said(0, 1), said(0, 1<<16+1)}, []int{1, 1<<16 + 1, 1<<31 + 1}},
	} {
		t.Run(v.what, func(t *testing.T) {
			words := row(v.inSlots...)
			kept := slices.Clone(words)
			if got := slots.Named(byHand(), words); !slices.Equal(got, v.want) {
				t.Errorf("%x: %v, want %v", v.inSlots, got, v.want)
			}
			if !slices.Equal(words, kept) {
				t.Errorf("the words that were handed in are %x, were %x", words, kept)
			}
		})
	}
}

// An arena as made names nothing; what a client announces is named.
func TestNamedAsMade(t *testing.T) {
	for _, c := range configs() {
		a := made(t, c)
		if got := slots.Named(c, a.Words()); len(got) != 0 {
			t.Errorf("as made, %v are named", got)
		}
		var want []int
		for slot := range c.Slots {
			block := 1 + (c.Slots-slot)*7
			a.Store(slotWord(slot), slots.Mark(slot%c.Clients, block))
			want = append(want, block)
			slices.Sort(want)
			if got := slots.Named(c, a.Words()); !slices.Equal(got, want) {
				t.Errorf("%d slots: %v, want %v", slot+1, got, want)
			}
		}
	}
}

func TestNamedOfOtherLengths(t *testing.T) {
	for _, c := range configs() {
		if size(c) != len(made(t, c).Words()) {
			t.Fatalf("%+v has %d words, not %d", c, len(made(t, c).Words()), size(c))
		}
		words := make([]uint64, size(c)+100)
		for i := range words {
			words[i] = said(1, 3)
		}
		if got := slots.Named(c, words[:size(c)]); !slices.Equal(got, []int{3}) {
			t.Errorf("as many words as there are to be: %v, want 3", got)
		}
		for _, n := range []int{0, 1, 4, 5, slotWord(c.Slots), size(c) - 1, size(c) + 1, size(c) + 100} {
			if got := slots.Named(c, words[:n]); len(got) != 0 {
				t.Errorf("%d words, of %d: %v, want none", n, size(c), got)
			}
		}
		if got := slots.Named(c, nil); len(got) != 0 {
			t.Errorf("no words: %v, want none", got)
		}
	}
}

func TestNamedOfWrongConfigs(t *testing.T) {
	for _, c := range wrongConfigs() {
		for n := range 200 {
			words := make([]uint64, n)
			for i := range words {
				words[i] = said(1, 3)
			}
			if got := slots.Named(c, words); len(got) != 0 {
				t.Fatalf("%d words of the wrong config %+v: %v, want none", n, c, got)
			}
		}
	}
}

// Any words at all, told another way: each number that there may be is asked for.
func TestNamedOfAnyWords(t *testing.T) {
	d := &drawer{}
	told := 0
	for range 3000 {
		c := configs()[d.below(len(configs()))]
		words := make([]uint64, size(c))
		for i := range words {
			words[i] = uint64(d.below(3))*(1<<32) + uint64(d.below(9))
			if d.below(20) == 0 {
				words[i] = d.word() &^ 0xfffffff0
			}
		}
		var want []int
		for block := 1; block < 16; block++ {
			if slices.ContainsFunc(words[5:5+c.Slots], func(w uint64) bool {
				return w>>32 > 0 && w<<32>>32 == uint64(block)
			}) {
				want = append(want, block)
			}
		}
		if got := slots.Named(c, words); !slices.Equal(got, want) {
			t.Fatalf("%x: %v, want %v", words[5:5+c.Slots], got, want)
		}
		told += len(want)
	}
	if told < 3000 {
		t.Errorf("%d blocks were named: too few to tell", told)
	}
}

// R3: what is told is the caller's.
func TestNamedIsNewMemory(t *testing.T) {
	words := row(said(0, 1), said(1, 2), 0)
	first, second := slots.Named(byHand(), words), slots.Named(byHand(), words)
	first[0] = 9
	if !slices.Equal(second, []int{1, 2}) || !slices.Equal(slots.Named(byHand(), words), []int{1, 2}) {
		t.Error("two answers of Named share memory")
	}
}
