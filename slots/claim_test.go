package slots_test

import (
	"math"
	"slices"
	"testing"

	"intaglio/api"
	"intaglio/arena"
	"intaglio/slots"
)

// P12.2: claimed.

func TestClaimStepByStep(t *testing.T) {
	c := byHand()
	a := made(t, c)
	first := slots.NewClaim(c, 2)
	if first.Done() || first.Slot() != -1 {
		t.Fatal("a run that has not begun is done, or has a slot")
	}
	stepped(t, a, first, swap(5, 0x300000000, true), true, 0)
	still(t, a, first, 0)

	second := slots.NewClaim(c, 3)
	stepped(t, a, second, swap(5, 0x300000000, false), false, -1)
	stepped(t, a, second, swap(6, 0x400000000, true), true, 1)
	still(t, a, second, 1)

	third := slots.NewClaim(c, 0)
	stepped(t, a, third, swap(5, 0x300000000, false), false, -1)
	stepped(t, a, third, swap(6, 0x400000000, false), false, -1)
	stepped(t, a, third, swap(7, 0x100000000, true), true, 2)
	still(t, a, third, 2)

	none := slots.NewClaim(c, 1)
	stepped(t, a, none, swap(5, 0x300000000, false), false, -1)
	stepped(t, a, none, swap(6, 0x400000000, false), false, -1)
	stepped(t, a, none, swap(7, 0x100000000, false), true, -1)
	still(t, a, none, -1)

	// What was told of the others stays.
	for slot, claim := range []*slots.Claim{first, second, third} {
		still(t, a, claim, slot)
	}
	if a.Err() != nil {
		t.Error(a.Err())
	}
}

// One client may have several slots: each claim has one of its own.
func TestOneClientClaimsAll(t *testing.T) {
	for _, c := range configs() {
		for client := range c.Clients {
			a := made(t, c)
			for slot := range c.Slots {
				claim := slots.NewClaim(c, client)
				if n := finish(t, a, claim); n != slot+1 || claim.Slot() != slot {
					t.Fatalf("slot %d, in %d steps, want %d, in %d", claim.Slot(), n, slot, slot+1)
				}
			}
			claim := slots.NewClaim(c, client)
			if n := finish(t, a, claim); n != c.Slots || claim.Slot() != -1 {
				t.Fatalf("slot %d, in %d steps, though all are taken", claim.Slot(), n)
			}
			want := made(t, c).Words()
			for slot := range c.Slots {
				want[slotWord(slot)] = said(uint64(client), 0)
			}
			if !slices.Equal(a.Words(), want) || a.Err() != nil {
				t.Fatalf("%x, want %x, %v", a.Words(), want, a.Err())
			}
		}
	}
}

// Whatever a slot's word is, but 0, the slot is not free, and is left as it is.
func TestClaimPassesWhatIsNotFree(t *testing.T) {
	c := byHand()
	for _, w := range []uint64{1, 2, 0xffffffff, 0x80000000, 0x100000000, 0x200000000, 0x200000001, 0x300000003, 0x8000000000000000, 0xffffffff00000000, math.MaxUint64} {
		a := laid(row(w, w, 0))
		claim := slots.NewClaim(c, 1)
		stepped(t, a, claim, swap(5, w, false), false, -1)
		stepped(t, a, claim, swap(6, w, false), false, -1)
		stepped(t, a, claim, swap(7, 0x200000000, true), true, 2)
		if !slices.Equal(a.Words(), row(w, w, 0x200000000)) {
			t.Errorf("%x behind it: %x", w, a.Words())
		}
		a = laid(row(w, w, w))
		claim = slots.NewClaim(c, 1)
		if n := finish(t, a, claim); n != 3 || claim.Slot() != -1 || !slices.Equal(a.Words(), row(w, w, w)) {
			t.Errorf("slot %d, in %d steps, though all are %x: %x", claim.Slot(), n, w, a.Words())
		}
	}
}

// A slot that becomes free behind the run's back is not looked at again; one that is taken ahead of it is passed.
func TestClaimMeanwhile(t *testing.T) {
	c := byHand()
	a := laid(row(0x100000000, 0, 0))
	claim := slots.NewClaim(c, 2)
	stepped(t, a, claim, swap(5, 0x100000000, false), false, -1)
	a.Store(5, 0)
	a.Store(6, 0x200000009)
	stepped(t, a, claim, swap(6, 0x200000009, false), false, -1)
	a.Store(6, 0)
	a.Store(7, 0x100000000)
	stepped(t, a, claim, swap(7, 0x100000000, false), true, -1)
	a.Store(7, 0)
	still(t, a, claim, -1)

	other := slots.NewClaim(c, 3)
	stepped(t, a, other, swap(5, 0x400000000, true), true, 0)
	a.Store(5, 0)
	still(t, a, other, 0)
	a.Store(5, 0x100000000)
	still(t, a, other, 0)
}

// What is handed in, or was, does not hang together with the run.
func TestClaimKeepsItsConfig(t *testing.T) {
	c := byHand()
	claim := slots.NewClaim(c, 1)
	c.Slots, c.Clients = 1, 1
	a := laid(row(7, 7, 0))
	if n := finish(t, a, claim); n != 3 || claim.Slot() != 2 {
		t.Errorf("slot %d, in %d steps, want 2, in 3", claim.Slot(), n)
	}
}

// Wrong inputs.

func TestWrongClaims(t *testing.T) {
	for _, c := range wrongConfigs() {
		for _, client := range append(far(), 0, 1, 2, 3, 4) {
			if slots.NewClaim(c, client) != nil {
				t.Errorf("a run of client %d of the wrong config %+v", client, c)
			}
		}
	}
	for _, c := range configs() {
		for _, client := range append(far(), c.Clients, c.Clients+1) {
			if slots.NewClaim(c, client) != nil {
				t.Errorf("a run of client %d of the config %+v", client, c)
			}
		}
		for client := range c.Clients {
			if slots.NewClaim(c, client) == nil {
				t.Errorf("no run of client %d of the config %+v", client, c)
			}
		}
	}
}

// A nil run, and one that NewClaim did not make: done, no step, and no slot.
func TestNilClaims(t *testing.T) {
	c := byHand()
	for _, claim := range []*slots.Claim{nil, slots.NewClaim(c, -1), slots.NewClaim(c, 4), slots.NewClaim(api.Config{}, 0), {}} {
		if !claim.Done() || claim.Slot() != -1 {
			t.Error("a nil run is not done, or has a slot")
		}
		still(t, made(t, c), claim, -1)
	}
}

// A nil arena tells each swap false: no slot is claimed of it. The run goes on where there is an arena.
func TestClaimOfNoArena(t *testing.T) {
	for _, c := range configs() {
		claim := slots.NewClaim(c, 0)
		for slot := range c.Slots {
			last := slot == c.Slots-1
			if claim.Done() || claim.Step(nil) != last || claim.Done() != last || claim.Slot() != -1 {
				t.Fatalf("slot %d of %d: done %v, slot %d", slot, c.Slots, claim.Done(), claim.Slot())
			}
		}
		still(t, made(t, c), claim, -1)
	}
	claim := slots.NewClaim(byHand(), 1)
	claim.Step(nil)
	stepped(t, made(t, byHand()), claim, swap(6, 0x200000000, true), true, 1)
}

// An arena of fewer words than the config asks: a slot that it has is claimed; one that it has not is not, and is its trouble.
func TestClaimOfShortArenas(t *testing.T) {
	c := byHand()
	for length := 1; length <= byHandSize; length++ {
		a := arena.New(length)
		for slot := range c.Slots {
			claim := slots.NewClaim(c, 3)
			for past := range slot {
				stepped(t, a, claim, pastSlot(past, length), past == 2, -1)
			}
			if slotWord(slot) < length {
				stepped(t, a, claim, swap(slotWord(slot), 0x400000000, true), true, slot)
				continue
			}
			for past := slot; past < 3; past++ {
				stepped(t, a, claim, pastSlot(past, length), past == 2, -1)
			}
			still(t, a, claim, -1)
		}
		want := error(nil)
		if length <= slotWord(2) {
			want = noWord(max(length, slotWord(0)))
		}
		if a.Err() != want {
			t.Errorf("%d words: %v, want %v", length, a.Err(), want)
		}
	}
}

// pastSlot is the step upon a slot of client 3's, or one that there is not.
func pastSlot(slot, length int) api.Access {
	if slotWord(slot) < length {
		return swap(slotWord(slot), 0x400000000, false)
	}
	return swap(slotWord(slot), 0, false)
}
