package heads_test

import (
	"math"
	"slices"
	"testing"

	"intaglio/api"
	"intaglio/heads"
	"intaglio/plan"
)

func tags() []uint32 {
	return []uint32{0, 1, 2, 7, 255, 256, 1<<16 - 1, 1 << 16, 1<<31 - 1, 1 << 31, 1<<31 + 1, 1<<32 - 2, 1<<32 - 1}
}

// numbers are blocks that there may be, and far ones, among them some that do not fit into 32 bits.
func numbers() []int {
	return []int{0, 1, 2, 3, 12, 24, 25, 255, 1<<31 - 1, 1 << 31, 1<<32 - 1, 1 << 32, 1<<32 + 1, 3<<32 + 5, math.MaxInt - 1, math.MaxInt,
		-1, -2, -24, -1 << 31, -1<<31 - 1, -1 << 32, -1<<32 + 7, -1<<32 - 1, math.MinInt, math.MinInt + 3}
}

// lowest is the number of the lowest 32 bits of a block's number.
func lowest(block int) int {
	return ((block % (1 << 32)) + 1<<32) % (1 << 32)
}

// The chapter's example, and DOC.md's config.
func TestExample(t *testing.T) {
	c := config(1, 1, 4, 2, 8, 1)
	a, err := plan.Make(c)
	if err != nil {
		t.Fatal(err)
	}
	for class, want := range [][]int{{1, 2}, {3}} {
		blocks, err := heads.List(c, a.Words(), class)
		check(t, "List", told{blocks, err}, told{want, nil})
	}
	blocks, err := heads.Free(c, a.Words())
	check(t, "Free", told{blocks, err}, told{[]int{1, 2, 3}, nil})
}

// P10.1: heads.

func TestHeadsByHand(t *testing.T) {
	for _, c := range []struct {
		tag   uint32
		block int
		want  uint64
	}{
		{0, 0, 0}, {0, 1, 1}, {1, 0, 1 << 32}, {7, 3, 0x700000003}, {0x12345678, 0x9abcdef0, 0x123456789abcdef0},
		{1<<32 - 1, 0, 0xffffffff00000000}, {0, 1<<32 - 1, 0xffffffff}, {1<<32 - 1, 1<<32 - 1, math.MaxUint64},
		{5, 1 << 32, 0x500000000}, {5, 1<<32 + 9, 0x500000009}, {5, 0x1122334455667788, 0x555667788},
		{5, -1, 0x5ffffffff}, {0, -1, 0xffffffff}, {5, -1 << 32, 0x500000000}, {5, math.MinInt, 0x500000000}, {5, math.MaxInt, 0x5ffffffff},
	} {
		if got := heads.Make(c.tag, c.block); got != c.want {
			t.Errorf("Make(%x, %x): %x, want %x", c.tag, c.block, got, c.want)
		}
	}
	for _, c := range []struct {
		w     uint64
		tag   uint32
		block int
	}{
		{0, 0, 0}, {1, 0, 1}, {1 << 32, 1, 0}, {0x900000005, 9, 5}, {0x80000000, 0, 1 << 31}, {1 << 63, 1 << 31, 0},
		{0xffffffff, 0, 1<<32 - 1}, {0xffffffff00000000, 1<<32 - 1, 0}, {math.MaxUint64, 1<<32 - 1, 1<<32 - 1},
	} {
		if tag, block := heads.Tag(c.w), heads.Block(c.w); tag != c.tag || block != c.block {
			t.Errorf("Tag, Block of %x: %x, %x, want %x, %x", c.w, tag, block, c.tag, c.block)
		}
	}
}

func TestTurnByHand(t *testing.T) {
	for _, c := range []struct {
		w     uint64
		block int
		want  uint64
	}{
		{0, 0, 1 << 32}, {0, 1, 0x100000001}, {0x100000001, 2, 0x200000002}, {0x700000003, 3, 0x800000003}, {0x700000003, 0, 0x800000000},
		{0xffffffff00000002, 6, 6}, {0xffffffff00000002, 2, 2}, {0xffffffff00000000, 0, 0}, {math.MaxUint64, -1, 0xffffffff},
		{0xfffffffe00000001, 1, 0xffffffff00000001}, {0x7fffffff00000001, 4, 0x8000000000000004},
		{0xffffffff, 4, 0x100000004}, {0x300000001, 1<<32 + 4, 0x400000004}, {0x300000001, -2, 0x4fffffffe}, {0x300000001, -1 << 40, 0x400000000},
	} {
		if got := heads.Turn(c.w, c.block); got != c.want {
			t.Errorf("Turn(%x, %x): %x, want %x", c.w, c.block, got, c.want)
		}
	}
}

func TestHeads(t *testing.T) {
	for _, tag := range tags() {
		for _, block := range numbers() {
			w := heads.Make(tag, block)
			if want := uint64(tag)*(1<<32) + uint64(lowest(block)); w != want {
				t.Errorf("Make(%x, %x): %x, want %x", tag, block, w, want)
			}
			if heads.Tag(w) != tag || heads.Block(w) != lowest(block) {
				t.Errorf("Make(%x, %x) came back as %x, %x", tag, block, heads.Tag(w), heads.Block(w))
			}
		}
	}
}

// Any word is a head.
func TestAnyWordIsAHead(t *testing.T) {
	d := &drawer{}
	for i := range 10000 {
		w := d.word()
		if i < 64 {
			w = 1 << i
		}
		if heads.Tag(w) != uint32(w/(1<<32)) || heads.Block(w) != int(w%(1<<32)) {
			t.Fatalf("Tag, Block of %x: %x, %x", w, heads.Tag(w), heads.Block(w))
		}
		if got := heads.Make(heads.Tag(w), heads.Block(w)); got != w {
			t.Fatalf("%x came back as %x", w, got)
		}
	}
}

func TestTurn(t *testing.T) {
	for _, tag := range tags() {
		for _, old := range numbers() {
			for _, block := range numbers() {
				w := heads.Make(tag, old)
				got := heads.Turn(w, block)
				if want := (uint64(tag)+1)%(1<<32)*(1<<32) + uint64(lowest(block)); got != want {
					t.Errorf("Turn(%x, %x): %x, want %x", w, block, got, want)
				}
			}
		}
	}
}

// P10.3: what follows.

func TestATurnedHeadIsNotWhatItWas(t *testing.T) {
	d := &drawer{}
	for i := range 20000 {
		w := d.word()
		if i%3 == 0 {
			w |= math.MaxUint32 << 32
		}
		for _, block := range []int{heads.Block(w), heads.Block(w) + 1<<32, int(w), int(w + 1<<32), int(w - 1<<32), int(w + 1), 0, 1} {
			if heads.Turn(w, block) == w {
				t.Fatalf("Turn(%x, %x) is what it was", w, block)
			}
		}
	}
}

// Heads that are turned over and over, to few blocks, do not come back before all tags were there.
func TestTurnedOverAndOver(t *testing.T) {
	seen := map[uint64]bool{}
	w := heads.Make(math.MaxUint32-1000, 2)
	for i := range 100000 {
		if seen[w] {
			t.Fatalf("%x is there again, after %d turns", w, i)
		}
		seen[w] = true
		w = heads.Turn(w, i%3)
	}
}

// turnSome takes a block from a class's list, or gives one back, as lists are turned.
func turnSome(d *drawer, c api.Config, words []uint64, free [][]int, taken *[]int) {
	s := spell(c)
	if len(*taken) > 0 && d.below(2) == 0 {
		i := d.below(len(*taken))
		b := (*taken)[i]
		*taken = slices.Delete(*taken, i, i+1)
		head := &words[3+s.class[b]]
		words[s.word[b]] = uint64(heads.Block(*head))
		*head = heads.Turn(*head, b)
		free[s.class[b]] = slices.Insert(free[s.class[b]], 0, b)
		return
	}
	class := d.below(2)
	if len(free[class]) == 0 {
		return
	}
	b, head := free[class][0], &words[3+class]
	*head = heads.Turn(*head, heads.Block(words[s.word[b]]))
	free[class], *taken = free[class][1:], append(*taken, b)
	// What a block's head has, while it is in no list, says nothing.
	words[s.word[b]] = d.word()
}

// Lists whose heads are turned as blocks are taken, and given back, are what a row tells from which blocks are taken, and to which they are given.
func TestTurnedLists(t *testing.T) {
	d := &drawer{}
	for _, c := range configs() {
		a, err := plan.Make(c)
		if err != nil {
			t.Fatal(err)
		}
		words, free := a.Words(), [][]int{spell(c).of(0), spell(c).of(1)}
		var taken []int
		for range 300 {
			turnSome(d, c, words, free, &taken)
			for class := range free {
				blocks, err := heads.List(c, words, class)
				check(t, "List", told{blocks, err}, told{free[class], nil})
			}
			blocks, err := heads.Free(c, words)
			check(t, "Free", told{blocks, err}, told{slices.Sorted(slices.Values(slices.Concat(free...))), nil})
		}
	}
}
