package pool_test

import (
	"math"
	"slices"
	"testing"

	"intaglio/api"
	"intaglio/arena"
	"intaglio/pool"
)

// P11.2: given.

func TestGiveStepByStep(t *testing.T) {
	c := byHand()
	a := laid(words(map[int]uint64{3: 2, 4: 0x900000000}))
	give := pool.NewGive(c, 3)
	if give.Done() {
		t.Fatal("a run that has not begun is done")
	}
	stepped(t, a, give, load(3, 2), false, 0)
	stepped(t, a, give, store(26, 2), false, 0)
	stepped(t, a, give, swap(3, 0x100000003, true), true, 0)
	still(t, a, give, 0)

	other := pool.NewGive(c, 4)
	stepped(t, a, other, load(4, 0x900000000), false, 0)
	stepped(t, a, other, store(31, 0), false, 0)
	stepped(t, a, other, swap(4, 0xa00000004, true), true, 0)
	still(t, a, other, 0)

	last := pool.NewGive(c, 1)
	stepped(t, a, last, load(3, 0x100000003), false, 0)
	stepped(t, a, last, store(16, 3), false, 0)
	stepped(t, a, last, swap(3, 0x200000001, true), true, 0)
	isList(t, c, a, 0, 1, 3, 2)
	isList(t, c, a, 1, 4)
}

// All blocks are taken, and given back, in any order: each list has them the other way round.
func TestAllAreGiven(t *testing.T) {
	d := &drawer{}
	for _, c := range configs() {
		s := spell(c)
		for range 10 {
			a := made(t, c)
			var lists [2][]int
			for class := range 2 {
				for range s.of(class) {
					finish(t, a, pool.NewTake(c, class))
				}
			}
			left := slices.Concat(s.of(0), s.of(1))
			for len(left) > 0 {
				i := d.below(len(left))
				b := left[i]
				left = slices.Delete(left, i, i+1)
				if n := finish(t, a, pool.NewGive(c, b)); n != 3 {
					t.Fatalf("block %d was given back in %d steps", b, n)
				}
				lists[s.class[b]] = slices.Insert(lists[s.class[b]], 0, b)
				isList(t, c, a, 0, lists[0]...)
				isList(t, c, a, 1, lists[1]...)
			}
			for class := range 2 {
				if w := a.Words()[3+class]; w>>32 != uint64(2*len(s.of(class))) {
					t.Fatalf("the head %x, behind %d blocks that were taken and given back", w, len(s.of(class)))
				}
			}
			if a.Err() != nil {
				t.Fatal(a.Err())
			}
		}
	}
}

// Upper halves that are not 0: the head's is the tag, which is turned, and does not come to the block's word; what that was is gone. The head's block is not looked at, whatever it is.
func TestGivenHeads(t *testing.T) {
	c := byHand()
	for _, v := range []struct {
		what                    string
		head, block, then, turn uint64
	}{
		{"no tag", 2, 0, 2, 0x100000003},
		{"a tag", 0x700000002, 0, 2, 0x800000003},
		{"the last tag", 0xffffffff00000002, 0, 2, 3},
		{"the last tag but one", 0xfffffffe00000002, 0, 2, 0xffffffff00000003},
		{"the last tag alone", 0xffffffff00000000, 0, 0, 3},
		{"half of all tags", 0x7fffffff00000001, 0, 1, 0x8000000000000003},
		{"an empty list", 0, 1, 0, 0x100000003},
		{"an empty list, with a tag", 0x400000000, 1, 0, 0x500000003},
		{"the block's word", 1, math.MaxUint64, 1, 0x100000003},
		{"the block itself", 0x200000003, 1, 3, 0x300000003},
		{"the other class's", 0x200000005, 1, 5, 0x300000003},
		{"no block's", 0x200000006, 1, 6, 0x300000003},
		{"a far one", 0x200000000 + 1<<31, 1, 1 << 31, 0x300000003},
		{"all bits", math.MaxUint64, 1, math.MaxUint32, 3},
	} {
		t.Run(v.what, func(t *testing.T) {
			a := laid(words(map[int]uint64{3: v.head, 4: 4, 26: v.block}))
			give := pool.NewGive(c, 3)
			stepped(t, a, give, load(3, v.head), false, 0)
			stepped(t, a, give, store(26, v.then), false, 0)
			stepped(t, a, give, swap(3, v.turn, true), true, 0)
			still(t, a, give, 0)
		})
	}
}

// A swap that is told false: the run goes on with the head, as often as it is overtaken, and stores anew.
func TestGiveAgain(t *testing.T) {
	c := byHand()
	a := laid(words(map[int]uint64{3: 1}))
	give := pool.NewGive(c, 2)
	stepped(t, a, give, load(3, 1), false, 0)
	stepped(t, a, give, store(21, 1), false, 0)
	a.Store(3, 0x500000003)
	stepped(t, a, give, swap(3, 0x500000003, false), false, 0)
	stepped(t, a, give, load(3, 0x500000003), false, 0)
	a.Store(3, 0x600000000)
	stepped(t, a, give, store(21, 3), false, 0)
	stepped(t, a, give, swap(3, 0x600000000, false), false, 0)
	stepped(t, a, give, load(3, 0x600000000), false, 0)
	stepped(t, a, give, store(21, 0), false, 0)
	stepped(t, a, give, swap(3, 0x700000002, true), true, 0)
	still(t, a, give, 0)

	for i := range 40 {
		give = pool.NewGive(c, 5)
		for range i {
			a.Store(4, uint64(i)<<32+4)
			give.Step(a)
			give.Step(a)
			a.Store(4, uint64(i+1)<<32+4)
			stepped(t, a, give, swap(4, uint64(i+1)<<32+4, false), false, 0)
		}
		if n := finish(t, a, give); n != 3 {
			t.Fatalf("overtaken %d times: %d steps more", i, n)
		}
	}
}

// The same block is first again when the run swaps, but its list is another one: the tag tells.
func TestGiveOvertaken(t *testing.T) {
	c := byHand()
	a := made(t, c)
	first := pool.NewTake(c, 0)
	finish(t, a, first)
	slow := pool.NewGive(c, 1)
	stepped(t, a, slow, load(3, 0x100000002), false, 0)
	stepped(t, a, slow, store(16, 2), false, 0)
	second := pool.NewTake(c, 0)
	finish(t, a, second)
	isList(t, c, a, 0, 3)
	finish(t, a, pool.NewGive(c, second.Block()))
	isList(t, c, a, 0, 2, 3)
	stepped(t, a, slow, swap(3, 0x300000002, false), false, 0)
	stepped(t, a, slow, load(3, 0x300000002), false, 0)
	stepped(t, a, slow, store(16, 2), false, 0)
	stepped(t, a, slow, swap(3, 0x400000001, true), true, 0)
	isList(t, c, a, 0, 1, 2, 3)
}

// Wrong inputs.

func TestWrongGives(t *testing.T) {
	for _, c := range wrongConfigs() {
		for _, block := range append(far(), 0, 1, 2, 3, 4) {
			if pool.NewGive(c, block) != nil {
				t.Errorf("a run of block %d of the wrong config %+v", block, c)
			}
		}
	}
	for _, c := range configs() {
		blocks := len(spell(c).class)
		for _, block := range append(far(), 0, blocks+1, blocks+2, blocks+13) {
			if pool.NewGive(c, block) != nil {
				t.Errorf("a run of block %d of the config %+v", block, c)
			}
		}
		for b := 1; b <= blocks; b++ {
			if pool.NewGive(c, b) == nil {
				t.Errorf("no run of block %d of the config %+v", b, c)
			}
		}
	}
}

// A nil run, and one that NewGive did not make: done, and no step.
func TestNilGives(t *testing.T) {
	c := byHand()
	for _, give := range []*pool.Give{nil, pool.NewGive(c, 0), pool.NewGive(c, 6), pool.NewGive(api.Config{}, 1), {}} {
		if !give.Done() {
			t.Error("a nil run is not done")
		}
		still(t, made(t, c), give, 0)
	}
}

// A nil arena tells each swap false: the run goes round, step by step, and is done where there is an arena.
func TestGiveToNoArena(t *testing.T) {
	for _, c := range configs() {
		for b := range spell(c).class {
			give := pool.NewGive(c, b)
			for range 30 {
				if give.Step(nil) || give.Done() {
					t.Fatal("a run is done, and has given its block to nobody")
				}
			}
		}
	}
	c := byHand()
	a := laid(words(map[int]uint64{3: 0x200000001}))
	give := pool.NewGive(c, 3)
	for range 3 {
		give.Step(nil)
	}
	stepped(t, a, give, load(3, 0x200000001), false, 0)
	give.Step(nil)
	stepped(t, a, give, swap(3, 0x300000003, true), true, 0)
	if a.Words()[26] != 0 {
		t.Errorf("the block's word: %x", a.Words()[26])
	}
}

// An arena of fewer words than the config asks has the trouble of the first one that it has not; where there is no head, the run goes round.
func TestGiveToShortArenas(t *testing.T) {
	c := byHand()
	for length := 1; length <= 45; length++ {
		a := arena.New(length)
		give := pool.NewGive(c, 5)
		if length <= 4 {
			for range 10 {
				stepped(t, a, give, load(4, 0), false, 0)
				stepped(t, a, give, api.Access{Kind: api.Store, Word: 38}, false, 0)
				stepped(t, a, give, swap(4, 0, false), false, 0)
			}
			if a.Err() != noWord(4) {
				t.Errorf("%d words: %v", length, a.Err())
			}
			continue
		}
		a.Store(4, 0x200000004)
		stepped(t, a, give, load(4, 0x200000004), false, 0)
		want, trouble := store(38, 4), error(nil)
		if length <= 38 {
			want, trouble = api.Access{Kind: api.Store, Word: 38}, noWord(38)
		}
		stepped(t, a, give, want, false, 0)
		stepped(t, a, give, swap(4, 0x300000005, true), true, 0)
		if a.Err() != trouble {
			t.Errorf("%d words: %v", length, a.Err())
		}
	}
}
