package arena_test

import (
	"math"
	"slices"
	"testing"

	"intaglio/api"
	"intaglio/arena"
)

// act is a step that is to be done.
type act struct {
	kind, word int
	old, new   uint64
}

// told is all that an arena tells behind a step, and what the step told.
type told struct {
	value uint64
	done  bool
	steps int
	last  api.Access
	err   error
	words []uint64
}

func do(a *arena.Arena, s act) told {
	var out told
	switch s.kind {
	case api.Load:
		out.value = a.Load(s.word)
	case api.Store:
		a.Store(s.word, s.new)
	case api.Swap:
		out.done = a.Swap(s.word, s.old, s.new)
	}
	out.steps, out.last, out.err, out.words = a.Steps(), a.Last(), a.Err(), a.Words()
	return out
}

// plain is the chapter's own words, said of a map from numbers to words and of all acts so far: the last one is s.
func plain(n int, acts []act) told {
	words := map[int]uint64{}
	for i := range n {
		words[i] = 0
	}
	var out told
	for k, s := range acts {
		word, there := words[s.word]
		out.value, out.done = 0, false
		out.steps = k + 1
		out.last = api.Access{Kind: s.kind, Word: s.word}
		switch {
		case !there && out.err == nil:
			out.err = noWord(s.word)
		case !there:
		case s.kind == api.Load:
			out.value, out.last.Value = word, word
		case s.kind == api.Store:
			words[s.word], out.last.Value, out.last.Changed = s.new, s.new, true
		case word == s.old:
			words[s.word], out.last.Value, out.last.Changed = s.new, s.new, true
			out.done = true
		default:
			out.last.Value = word
		}
	}
	for i := range n {
		out.words = append(out.words, words[i])
	}
	return out
}

func agree(x, y told) bool {
	return x.value == y.value && x.done == y.done && x.steps == y.steps && x.last == y.last && same(x.err, y.err) && slices.Equal(x.words, y.words)
}

// P3.1 to P3.3, of all rows of three steps upon small arenas, behind each step.
func TestAllShortRows(t *testing.T) {
	var all []act
	for _, word := range []int{-1, 0, 1, 2} {
		all = append(all, act{kind: api.Load, word: word})
		for _, new := range []uint64{0, 5} {
			all = append(all, act{kind: api.Store, word: word, new: new})
			for _, old := range []uint64{0, 5} {
				all = append(all, act{kind: api.Swap, word: word, old: old, new: new})
			}
		}
	}
	for n := 1; n <= 2; n++ {
		for _, x := range all {
			for _, y := range all {
				for _, z := range all {
					checkRow(t, n, []act{x, y, z})
				}
			}
		}
	}
}

func checkRow(t *testing.T, n int, acts []act) {
	t.Helper()
	a := arena.New(n)
	for k, s := range acts {
		if got, want := do(a, s), plain(n, acts[:k+1]); !agree(got, want) {
			t.Fatalf("%d words, %+v: %+v, want %+v", n, acts[:k+1], got, want)
		}
	}
}

// The same, of long rows that are mixed: words of all sizes, and words that there are not.
func TestLongRows(t *testing.T) {
	values := []uint64{0, 1, 5, 1 << 32, 1 << 63, math.MaxUint64}
	for seed := uint64(1); seed <= 40; seed++ {
		x := seed
		draw := func(n int) int {
			x = x*6364136223846793005 + 1442695040888963407
			return int((x >> 33) % uint64(n))
		}
		n := 1 + draw(4)
		var acts []act
		for range 120 {
			s := act{kind: 1 + draw(3), word: draw(n), old: values[draw(3)], new: values[draw(3)]}
			if draw(8) == 0 {
				s.new = values[draw(len(values))]
			}
			if draw(30) == 0 {
				far := outside(n)
				s.word = far[draw(len(far))]
			}
			acts = append(acts, s)
		}
		checkRow(t, n, acts)
	}
}
