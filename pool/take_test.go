package pool_test

import (
	"math"
	"testing"

	"intaglio/api"
	"intaglio/arena"
	"intaglio/heads"
	"intaglio/plan"
	"intaglio/pool"
)

// byHand is the config of the tests by hand: its heads are the words 3 and 4; those of the blocks 1, 2, 3 the words 16, 21, 26, those of 4 and 5 the words 31 and 38.
func byHand() api.Config { return config(1, 1, 4, 3, 6, 2) }

// words are those of byHand's arena, all 0 but for these.
func words(some map[int]uint64) []uint64 {
	all := make([]uint64, 45)
	for i, w := range some {
		all[i] = w
	}
	return all
}

// The chapter's example.
func TestExample(t *testing.T) {
	c := config(1, 1, 4, 2, 8, 1)
	a := made(t, c)
	take := pool.NewTake(c, 0)
	for i := range 3 {
		if done := take.Step(a); done != (i == 2) {
			t.Fatalf("step %d: done %v", i+1, done)
		}
	}
	head := a.Words()[plan.Head(0)]
	if take.Block() != 1 || heads.Block(head) != 2 || heads.Tag(head) != 1 {
		t.Errorf("block %d; the head is of block %d, tag %d", take.Block(), heads.Block(head), heads.Tag(head))
	}
	blocks, err := heads.List(c, a.Words(), 0)
	if err != nil || len(blocks) != 1 || blocks[0] != 2 {
		t.Errorf("the list %v, %v", blocks, err)
	}
}

// P11.1: taken.

func TestTakeStepByStep(t *testing.T) {
	c := byHand()
	a := made(t, c)
	take := pool.NewTake(c, 0)
	if take.Done() || take.Block() != 0 {
		t.Fatalf("a run that has not begun: done %v, block %d", take.Done(), take.Block())
	}
	stepped(t, a, take, load(3, 1), false, 0)
	stepped(t, a, take, load(16, 2), false, 0)
	stepped(t, a, take, swap(3, 0x100000002, true), true, 1)
	still(t, a, take, 1)

	other := pool.NewTake(c, 1)
	stepped(t, a, other, load(4, 4), false, 0)
	stepped(t, a, other, load(31, 5), false, 0)
	stepped(t, a, other, swap(4, 0x100000005, true), true, 4)

	last := pool.NewTake(c, 1)
	stepped(t, a, last, load(4, 0x100000005), false, 0)
	stepped(t, a, last, load(38, 0), false, 0)
	stepped(t, a, last, swap(4, 0x200000000, true), true, 5)

	none := pool.NewTake(c, 1)
	stepped(t, a, none, load(4, 0x200000000), true, 0)
	still(t, a, none, 0)
	still(t, a, take, 1)
	isList(t, c, a, 0, 2, 3)
	isList(t, c, a, 1)
}

// All blocks of a class are taken, in the list's order, and then no more.
func TestAllAreTaken(t *testing.T) {
	for _, c := range configs() {
		a := made(t, c)
		for class := range 2 {
			blocks := spell(c).of(class)
			for i, b := range blocks {
				take := pool.NewTake(c, class)
				if n := finish(t, a, take); n != 3 || take.Block() != b {
					t.Fatalf("block %d, behind %d steps, want %d, behind 3", take.Block(), n, b)
				}
				isList(t, c, a, class, blocks[i+1:]...)
			}
			none := pool.NewTake(c, class)
			if n := finish(t, a, none); n != 1 || none.Block() != 0 {
				t.Fatalf("block %d, behind %d steps, though there is none", none.Block(), n)
			}
			if w := a.Words()[3+class]; w != uint64(len(blocks))<<32 {
				t.Fatalf("the head %x, behind %d blocks", w, len(blocks))
			}
		}
		if a.Err() != nil {
			t.Fatal(a.Err())
		}
	}
}

// A head whose block is 0, or none of the class.
func TestNoneIsTaken(t *testing.T) {
	c := byHand()
	for class, numbers := range [][]uint64{{0, 4, 5, 6, 7, 24, 3 + 1<<31, 1 << 31, math.MaxUint32}, {0, 1, 2, 3, 6, 7, 24, 4 + 1<<31, 1 << 31, math.MaxUint32}} {
		for _, number := range numbers {
			for _, tag := range []uint64{0, 1, 4, 5, 1 << 31, math.MaxUint32} {
				all := words(map[int]uint64{3: 1, 4: 4, 16: 2, 21: 3, 31: 5})
				all[3+class] = tag<<32 + number
				a := laid(all)
				take := pool.NewTake(c, class)
				stepped(t, a, take, load(3+class, tag<<32+number), true, 0)
				still(t, a, take, 0)
			}
		}
	}
}

// Classes without blocks, whatever the head says.
func TestClassesWithoutBlocks(t *testing.T) {
	for _, v := range []struct {
		c     api.Config
		class int
	}{{config(1, 1, 4, 0, 5, 0), 0}, {config(1, 1, 4, 0, 5, 0), 1}, {config(1, 1, 4, 0, 5, 2), 0}, {config(1, 1, 4, 2, 5, 0), 1}} {
		stepped(t, made(t, v.c), pool.NewTake(v.c, v.class), load(3+v.class, 0), true, 0)
		for _, w := range []uint64{1, 2, 3, 1 << 32, 1<<32 + 1, math.MaxUint64} {
			all := make([]uint64, plan.Size(v.c))
			all[3+v.class] = w
			stepped(t, laid(all), pool.NewTake(v.c, v.class), load(3+v.class, w), true, 0)
		}
	}
	// The other class has its blocks all the same.
	c := config(1, 1, 4, 0, 5, 2)
	a := made(t, c)
	take := pool.NewTake(c, 1)
	if finish(t, a, take); take.Block() != 1 {
		t.Errorf("block %d", take.Block())
	}
}

// Upper halves that are not 0: the head's is the tag, which is turned; the block's says nothing. The next number is not looked at, whatever it is.
func TestTakenHeads(t *testing.T) {
	c := byHand()
	for _, v := range []struct {
		what              string
		head, block, turn uint64
	}{
		{"no tag", 2, 3, 0x100000003},
		{"a tag", 0x700000002, 3, 0x800000003},
		{"the last tag", 0xffffffff00000002, 3, 3},
		{"the last tag but one", 0xfffffffe00000002, 3, 0xffffffff00000003},
		{"the last tag, and no next one", 0xffffffff00000002, 0, 0},
		{"half of all tags", 0x7fffffff00000002, 1, 0x8000000000000001},
		{"the block's upper half", 2, 0x900000003, 0x100000003},
		{"the block's upper half alone", 2, 0x900000000, 0x100000000},
		{"both upper halves", 0x500000002, 0xffffffff00000001, 0x600000001},
		{"itself", 2, 2, 0x100000002},
		{"the other class's", 2, 5, 0x100000005},
		{"no block's", 2, 6, 0x100000006},
		{"a far one", 0x300000002, 0x80000000, 0x480000000},
		{"all bits", 0x300000002, math.MaxUint64, 0x4ffffffff},
		{"all bits, the last tag", 0xffffffff00000002, math.MaxUint64, 0xffffffff},
	} {
		t.Run(v.what, func(t *testing.T) {
			a := laid(words(map[int]uint64{3: v.head, 4: 4, 21: v.block}))
			take := pool.NewTake(c, 0)
			stepped(t, a, take, load(3, v.head), false, 0)
			stepped(t, a, take, load(21, v.block), false, 0)
			stepped(t, a, take, swap(3, v.turn, true), true, 2)
			still(t, a, take, 2)
		})
	}
}

// A swap that is told false: the run goes on with the head, as often as it is overtaken.
func TestTakeAgain(t *testing.T) {
	c := byHand()
	a := made(t, c)
	take := pool.NewTake(c, 0)
	stepped(t, a, take, load(3, 1), false, 0)
	stepped(t, a, take, load(16, 2), false, 0)
	a.Store(3, 0x500000003)
	stepped(t, a, take, swap(3, 0x500000003, false), false, 0)
	stepped(t, a, take, load(3, 0x500000003), false, 0)
	stepped(t, a, take, load(26, 0), false, 0)
	a.Store(3, 0x500000002)
	stepped(t, a, take, swap(3, 0x500000002, false), false, 0)
	stepped(t, a, take, load(3, 0x500000002), false, 0)
	a.Store(21, 1)
	stepped(t, a, take, load(21, 1), false, 0)
	a.Store(21, 3)
	stepped(t, a, take, swap(3, 0x600000001, true), true, 2)
	still(t, a, take, 2)

	for i := range 40 {
		take = pool.NewTake(c, 1)
		for range i {
			a.Store(4, uint64(i)<<32+4)
			take.Step(a)
			take.Step(a)
			a.Store(4, uint64(i+1)<<32+4)
			stepped(t, a, take, swap(4, uint64(i+1)<<32+4, false), false, 0)
		}
		if n := finish(t, a, take); n != 3 || take.Block() != 4 {
			t.Fatalf("overtaken %d times: block %d, behind %d steps more", i, take.Block(), n)
		}
	}
}

// A run that was overtaken finds no block any more.
func TestTakeAgainAndNone(t *testing.T) {
	c := byHand()
	for _, w := range []uint64{0x100000000, 0, 6, 0x700000004} {
		a := made(t, c)
		take := pool.NewTake(c, 0)
		stepped(t, a, take, load(3, 1), false, 0)
		stepped(t, a, take, load(16, 2), false, 0)
		a.Store(3, w)
		stepped(t, a, take, swap(3, w, false), false, 0)
		stepped(t, a, take, load(3, w), true, 0)
		still(t, a, take, 0)
	}
}

// The same block is first again when the run swaps, but others were taken meanwhile: the tag tells.
func TestTakeOvertaken(t *testing.T) {
	c := byHand()
	a := made(t, c)
	slow := pool.NewTake(c, 0)
	stepped(t, a, slow, load(3, 1), false, 0)
	stepped(t, a, slow, load(16, 2), false, 0)
	first, second := pool.NewTake(c, 0), pool.NewTake(c, 0)
	finish(t, a, first)
	finish(t, a, second)
	finish(t, a, pool.NewGive(c, 1))
	if first.Block() != 1 || second.Block() != 2 {
		t.Fatalf("blocks %d, %d", first.Block(), second.Block())
	}
	isList(t, c, a, 0, 1, 3)
	stepped(t, a, slow, swap(3, 0x300000001, false), false, 0)
	stepped(t, a, slow, load(3, 0x300000001), false, 0)
	stepped(t, a, slow, load(16, 3), false, 0)
	stepped(t, a, slow, swap(3, 0x400000003, true), true, 1)
	isList(t, c, a, 0, 3)
}

// Wrong inputs.

func TestWrongTakes(t *testing.T) {
	for _, c := range wrongConfigs() {
		for _, class := range append(far(), 0, 1, 2) {
			if pool.NewTake(c, class) != nil {
				t.Errorf("a run of class %d of the wrong config %+v", class, c)
			}
		}
	}
	for _, c := range configs() {
		for _, class := range append(far(), 2, 3, 4) {
			if pool.NewTake(c, class) != nil {
				t.Errorf("a run of class %d of the config %+v", class, c)
			}
		}
		for class := range 2 {
			if pool.NewTake(c, class) == nil {
				t.Errorf("no run of class %d of the config %+v", class, c)
			}
		}
	}
}

// A nil run, and one that NewTake did not make: done, no step, no block.
func TestNilTakes(t *testing.T) {
	c := byHand()
	for _, take := range []*pool.Take{nil, pool.NewTake(c, 2), pool.NewTake(api.Config{}, 0), {}} {
		if !take.Done() || take.Block() != 0 {
			t.Errorf("a nil run: done %v, block %d", take.Done(), take.Block())
		}
		still(t, made(t, c), take, 0)
	}
}

// A nil arena tells 0 of each word, and has no steps.
func TestTakeOfNoArena(t *testing.T) {
	for _, c := range configs() {
		for class := range 2 {
			take := pool.NewTake(c, class)
			if !take.Step(nil) || !take.Done() || take.Block() != 0 {
				t.Errorf("of a nil arena: done %v, block %d", take.Done(), take.Block())
			}
		}
	}
	// An arena that is no more there later on: the swap is told false, the head has no block.
	c := byHand()
	a := made(t, c)
	take := pool.NewTake(c, 0)
	stepped(t, a, take, load(3, 1), false, 0)
	for i, done := range []bool{false, false, true} {
		if take.Step(nil) != done || take.Done() != done || take.Block() != 0 {
			t.Errorf("step %d of a nil arena: done %v, block %d", i+1, take.Done(), take.Block())
		}
	}
}

// An arena of fewer words than the config asks has the trouble of the first one that it has not.
func TestTakeOfShortArenas(t *testing.T) {
	c := byHand()
	for length := 1; length <= 45; length++ {
		a := arena.New(length)
		take := pool.NewTake(c, 1)
		if length <= 4 {
			stepped(t, a, take, load(4, 0), true, 0)
			if a.Err() != noWord(4) {
				t.Errorf("%d words: %v", length, a.Err())
			}
			continue
		}
		a.Store(4, 0x200000005)
		stepped(t, a, take, load(4, 0x200000005), false, 0)
		stepped(t, a, take, load(38, 0), false, 0)
		stepped(t, a, take, swap(4, 0x300000000, true), true, 5)
		if missing := length <= 38; missing && a.Err() != noWord(38) || !missing && a.Err() != nil {
			t.Errorf("%d words: %v", length, a.Err())
		}
	}
}
