package pool_test

import (
	"math"
	"slices"
	"testing"

	"intaglio/api"
	"intaglio/arena"
	"intaglio/pool"
)

// twin is a run, said of a plain row of words by the chapter's numbers of the steps.
type twin struct {
	s     spelled
	class int
	gives int // the block that is given back; 0, if one is taken
	at    int // the number of its next step; 0, if it is done
	head  uint64
	next  uint64
	has   int
}

func (w *twin) step(words []uint64) api.Access {
	out := api.Access{Word: 3 + w.class}
	was := w.at
	if was == 2 && w.gives == 0 {
		out.Word = w.s.word[int(w.head%(1<<32))]
	}
	if was == 2 && w.gives > 0 {
		out.Word = w.s.word[w.gives]
	}
	there := out.Word < len(words)
	word := uint64(0)
	if there {
		word = words[out.Word]
	}
	out.Kind, out.Value, w.at = api.Load, word, was+1
	switch {
	case was == 1:
		w.head = word
		if class, is := w.s.class[int(word%(1<<32))]; w.gives == 0 && (!is || class != w.class) {
			w.at = 0
		}
	case was == 2 && w.gives == 0:
		w.next = word % (1 << 32)
	case was == 2:
		out.Kind, w.next = api.Store, uint64(w.gives)
		if there {
			words[out.Word] = w.head % (1 << 32)
			out.Value, out.Changed = words[out.Word], true
		}
	default:
		out.Kind, w.at = api.Swap, 1
		if there && word == w.head {
			words[out.Word] = (w.head/(1<<32)+1)*(1<<32) + w.next
			out.Value, out.Changed, w.at = words[out.Word], true, 0
			if w.gives == 0 {
				w.has = int(w.head % (1 << 32))
			}
		}
	}
	return out
}

// pair is a run and its twin.
type pair struct {
	run  run
	twin *twin
}

// some is a run that is drawn, of either kind, and its twin.
func (d *drawer) some(c api.Config) pair {
	s := spell(c)
	if blocks := len(s.class); blocks > 0 && d.below(2) == 0 {
		b := 1 + d.below(blocks)
		return pair{pool.NewGive(c, b), &twin{s: s, class: s.class[b], gives: b, at: 1}}
	}
	class := d.below(2)
	return pair{pool.NewTake(c, class), &twin{s: s, class: class, at: 1}}
}

// step does a step of both, and holds all that is told of the one against the other; what the words are behind it is asked apart.
func (p pair) step(t *testing.T, a *arena.Arena, words []uint64) {
	t.Helper()
	if p.twin.at == 0 {
		still(t, a, p.run, p.twin.has)
		return
	}
	want := p.twin.step(words)
	stepped(t, a, p.run, want, p.twin.at == 0, p.twin.has)
}

// trouble is the first trouble of these, or the one that a step upon that word would be.
func trouble(ahead error, word, words int) error {
	if ahead == nil && word >= words {
		return noWord(word)
	}
	return ahead
}

// Runs that go on in any order, upon any words at all, which others store meanwhile; some arenas have fewer words than the config asks, some have more.
func TestAnyWords(t *testing.T) {
	d := &drawer{}
	told := map[bool]int{}
	for round := range 6000 {
		c := configs()[d.below(len(configs()))]
		s := spell(c)
		length := s.size
		if d.below(4) == 0 {
			length = 1 + d.below(s.size+20)
		}
		most := []uint64{2, 4, 6, 13, 26, math.MaxUint32, math.MaxUint64}[d.below(7)]
		draw := func() uint64 {
			w := d.word() % most
			return w + uint64(d.below(2))*(d.word()>>32<<32)
		}
		words := make([]uint64, length)
		for i := range words {
			words[i] = draw()
		}
		a := laid(words)
		runs := []pair{d.some(c), d.some(c), d.some(c)}
		var err error
		for range 40 {
			p := runs[d.below(len(runs))]
			was := p.twin.at
			p.step(t, a, words)
			if was > 0 {
				err = trouble(err, a.Last().Word, length)
			}
			if a.Last().Kind == api.Swap {
				told[a.Last().Changed]++
			}
			if d.below(12) == 0 {
				i := d.below(min(length, 5))
				words[i] = draw()
				a.Store(i, words[i])
			}
			if !slices.Equal(a.Words(), words) || a.Err() != err {
				t.Fatalf("round %d: %x, %v, want %x, %v", round, a.Words(), a.Err(), words, err)
			}
		}
	}
	if told[true] < 1000 || told[false] < 1000 {
		t.Errorf("swaps were told true %d times, false %d times: too few to tell", told[true], told[false])
	}
}

// The same, upon arenas as made, for as long as there are runs: lists and tags are as right ones are.
func TestAnyRunsAsMade(t *testing.T) {
	d := &drawer{seed: 1 << 40}
	for _, c := range configs() {
		for range 40 {
			a := made(t, c)
			words := a.Words()
			tag := d.word() >> 32 << 32
			for class := range 2 {
				words[3+class] |= tag
				a.Store(3+class, words[3+class])
			}
			runs := []pair{d.some(c), d.some(c), d.some(c), d.some(c)}
			for range 200 {
				i := d.below(len(runs))
				if runs[i].twin.at == 0 {
					runs[i] = d.some(c)
				}
				runs[i].step(t, a, words)
				if !slices.Equal(a.Words(), words) || a.Err() != nil {
					t.Fatalf("%x, %v, want %x", a.Words(), a.Err(), words)
				}
			}
		}
	}
}

// A run may go on upon another arena: nothing is kept of the one before but what was loaded.
func TestOtherArenas(t *testing.T) {
	c := byHand()
	here, there := laid(words(map[int]uint64{3: 0x200000001, 16: 2})), laid(words(map[int]uint64{3: 0x200000001, 16: 3}))
	take := pool.NewTake(c, 0)
	stepped(t, here, take, load(3, 0x200000001), false, 0)
	stepped(t, there, take, load(16, 3), false, 0)
	stepped(t, here, take, swap(3, 0x300000003, true), true, 1)
	give := pool.NewGive(c, 1)
	stepped(t, there, give, load(3, 0x200000001), false, 0)
	stepped(t, here, give, store(16, 1), false, 0)
	stepped(t, there, give, swap(3, 0x300000001, true), true, 0)
}
