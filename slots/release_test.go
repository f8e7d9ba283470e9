package slots_test

import (
	"math"
	"slices"
	"testing"

	"intaglio/api"
	"intaglio/arena"
	"intaglio/slots"
)

// P12.3: released.

func TestReleaseStepByStep(t *testing.T) {
	c := byHand()
	a := laid(row(0x100000001, 0x200000000, 0x300000003))
	for slot, left := range [][]uint64{{0, 0x200000000, 0x300000003}, {0, 0, 0x300000003}, {0, 0, 0}} {
		release := slots.NewRelease(c, slot)
		if release.Done() {
			t.Fatal("a run that has not begun is done")
		}
		stepped(t, a, release, store(slotWord(slot), 0), true, -1)
		if !slices.Equal(a.Words(), row(left...)) {
			t.Fatalf("slot %d was released: %x", slot, a.Words())
		}
		still(t, a, release, -1)
	}
	if a.Err() != nil {
		t.Error(a.Err())
	}
}

// Whatever the slot's word is, and whoever has it by then: 0 is stored.
func TestReleaseOfAnything(t *testing.T) {
	c := byHand()
	for _, w := range []uint64{0, 1, 0xffffffff, 0x100000000, 0x200000001, 0x8000000000000000, math.MaxUint64} {
		a := laid(row(w, w, w))
		release := slots.NewRelease(c, 1)
		stepped(t, a, release, store(6, 0), true, -1)
		if !slices.Equal(a.Words(), row(w, 0, w)) {
			t.Errorf("%x behind it: %x", w, a.Words())
		}
		a.Store(6, 0x300000002)
		still(t, a, release, -1)
	}
}

// A slot that another client has by then is taken from it; whoever claims then, has it.
func TestReleaseOfAnothers(t *testing.T) {
	c := byHand()
	a := made(t, c)
	first, late := slots.NewClaim(c, 0), slots.NewRelease(c, 0)
	stepped(t, a, first, swap(5, 0x100000000, true), true, 0)
	stepped(t, a, slots.NewRelease(c, 0), store(5, 0), true, -1)
	second := slots.NewClaim(c, 1)
	stepped(t, a, second, swap(5, 0x200000000, true), true, 0)
	stepped(t, a, late, store(5, 0), true, -1)
	still(t, a, second, 0)
	stepped(t, a, slots.NewClaim(c, 2), swap(5, 0x300000000, true), true, 0)
}

func TestReleaseOfEachSlot(t *testing.T) {
	for _, c := range configs() {
		for slot := range c.Slots {
			a := made(t, c)
			want := a.Words()
			for i := range c.Slots {
				a.Store(slotWord(i), said(0, 2))
				want[slotWord(i)] = said(0, 2)
			}
			want[slotWord(slot)] = 0
			if n := finish(t, a, slots.NewRelease(c, slot)); n != 1 {
				t.Errorf("slot %d was released in %d steps", slot, n)
			}
			if !slices.Equal(a.Words(), want) {
				t.Errorf("slot %d of %d: %x, want %x", slot, c.Slots, a.Words(), want)
			}
			claim := slots.NewClaim(c, 0)
			if n := finish(t, a, claim); n != slot+1 || claim.Slot() != slot {
				t.Errorf("slot %d was claimed in %d steps, want %d", claim.Slot(), n, slot)
			}
		}
	}
}

// Wrong inputs.

func TestWrongReleases(t *testing.T) {
	for _, c := range wrongConfigs() {
		for _, slot := range append(far(), 0, 1, 2, 3) {
			if slots.NewRelease(c, slot) != nil {
				t.Errorf("a run of slot %d of the wrong config %+v", slot, c)
			}
		}
	}
	for _, c := range configs() {
		for _, slot := range append(far(), c.Slots, c.Slots+1) {
			if slots.NewRelease(c, slot) != nil {
				t.Errorf("a run of slot %d of the config %+v", slot, c)
			}
		}
		for slot := range c.Slots {
			if slots.NewRelease(c, slot) == nil {
				t.Errorf("no run of slot %d of the config %+v", slot, c)
			}
		}
	}
}

// A nil run, and one that NewRelease did not make: done, and no step.
func TestNilReleases(t *testing.T) {
	c := byHand()
	for _, release := range []*slots.Release{nil, slots.NewRelease(c, -1), slots.NewRelease(c, 3), slots.NewRelease(api.Config{}, 0), {}} {
		if !release.Done() {
			t.Error("a nil run is not done")
		}
		still(t, laid(row(7, 7, 7)), release, -1)
	}
}

// Where there is no arena, or no such word in it, nothing is stored, and the run is done all the same.
func TestReleaseOfNoWord(t *testing.T) {
	c := byHand()
	for slot := range c.Slots {
		release := slots.NewRelease(c, slot)
		if !release.Step(nil) || !release.Done() {
			t.Error("the run is not done behind its step upon nothing")
		}
		still(t, laid(row(7, 7, 7)), release, -1)

		for length := 1; length <= byHandSize; length++ {
			a := arena.New(length)
			want, trouble := store(slotWord(slot), 0), error(nil)
			if length <= slotWord(slot) {
				want, trouble = api.Access{Kind: api.Store, Word: slotWord(slot)}, noWord(slotWord(slot))
			}
			release = slots.NewRelease(c, slot)
			stepped(t, a, release, want, true, -1)
			still(t, a, release, -1)
			if a.Err() != trouble {
				t.Errorf("slot %d of %d words: %v", slot, length, a.Err())
			}
		}
	}
}
