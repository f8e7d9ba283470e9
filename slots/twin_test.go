package slots_test

import (
	"slices"
	"testing"

	"intaglio/api"
	"intaglio/arena"
	"intaglio/slots"
)

// twin is a run, said of a plain row of words by the chapter's sentences.
type twin struct {
	left []int  // the words upon which its steps are, as long as it is not done
	mark uint64 // what a claim puts in; 0 is a release's
	has  int    // the slot that it has; -1, if it has none
}

func (w *twin) step(words []uint64) api.Access {
	out := api.Access{Kind: api.Swap, Word: w.left[0]}
	if w.mark == 0 {
		out.Kind = api.Store
	}
	w.left = w.left[1:]
	if out.Word >= len(words) {
		return out
	}
	if out.Kind == api.Store || words[out.Word] == 0 {
		words[out.Word], out.Changed = w.mark, true
	}
	if out.Kind == api.Swap && out.Changed {
		w.left, w.has = nil, out.Word-5
	}
	out.Value = words[out.Word]
	return out
}

// pair is a run and its twin.
type pair struct {
	run  run
	twin *twin
}

// some is a run that is drawn, of either kind, and its twin.
func (d *drawer) some(c api.Config) pair {
	if d.below(3) == 0 {
		slot := d.below(c.Slots)
		return pair{slots.NewRelease(c, slot), &twin{left: []int{slotWord(slot)}, has: -1}}
	}
	client := d.below(c.Clients)
	w := &twin{mark: said(uint64(client), 0), has: -1}
	for slot := range c.Slots {
		w.left = append(w.left, slotWord(slot))
	}
	return pair{slots.NewClaim(c, client), w}
}

// step does a step of both, and holds all that is told of the one against the other, and the words behind it; of a run that is done, that it does none. It tells whether there was a step.
func (p pair) step(t *testing.T, a *arena.Arena, words []uint64) bool {
	t.Helper()
	if len(p.twin.left) == 0 {
		still(t, a, p.run, p.twin.has)
		return false
	}
	want := p.twin.step(words)
	stepped(t, a, p.run, want, len(p.twin.left) == 0, p.twin.has)
	if got := a.Words(); !slices.Equal(got, words) {
		t.Fatalf("behind the step %+v: %x, want %x", want, got, words)
	}
	return true
}

// trouble is the first trouble of these, or the one that a step upon that word would be.
func trouble(ahead error, word, words int) error {
	if ahead == nil && word >= words {
		return noWord(word)
	}
	return ahead
}

// Runs that go on in any order, upon any words at all, which others store meanwhile; some arenas have fewer words than the config asks, some have more.
func TestAnyWords(t *testing.T) {
	d := &drawer{}
	told := map[bool]int{}
	for range 6000 {
		c := configs()[d.below(len(configs()))]
		length := size(c)
		if d.below(4) == 0 {
			length = 1 + d.below(slotWord(c.Slots)+5)
		}
		draw := func() uint64 { return []uint64{0, 0, 1, said(0, 0), said(1, 3), d.word()}[d.below(6)] }
		words := make([]uint64, length)
		for i := range words {
			words[i] = draw()
		}
		a := laid(words)
		var err error
		runs := []pair{d.some(c), d.some(c), d.some(c)}
		for range 30 {
			i := d.below(len(runs))
			if runs[i].step(t, a, words) {
				told[a.Last().Changed]++
				err = trouble(err, a.Last().Word, length)
			} else {
				runs[i] = d.some(c)
			}
			if d.below(8) == 0 {
				at := d.below(min(length, slotWord(c.Slots)))
				words[at] = draw()
				a.Store(at, words[at])
			}
			if a.Err() != err {
				t.Fatalf("%v, want %v", a.Err(), err)
			}
		}
	}
	if told[true] < 10000 || told[false] < 10000 {
		t.Errorf("words were changed by %d steps, not by %d: too few to tell", told[true], told[false])
	}
}

// A run may go on upon another arena: nothing is kept of the one before.
func TestOtherArenas(t *testing.T) {
	c := byHand()
	here, there := laid(row(7, 0, 0)), laid(row(0, 8, 0))
	claim := slots.NewClaim(c, 0)
	stepped(t, here, claim, swap(5, 7, false), false, -1)
	stepped(t, there, claim, swap(6, 8, false), false, -1)
	stepped(t, here, claim, swap(7, 0x100000000, true), true, 2)
	still(t, there, claim, 2)
	release := slots.NewRelease(c, 2)
	stepped(t, there, release, store(7, 0), true, -1)
	still(t, here, release, -1)
}
