package pool_test

import (
	"math"
	"slices"
	"testing"

	"intaglio/api"
	"intaglio/arena"
	"intaglio/bits"
	"intaglio/cause"
	"intaglio/plan"
	"intaglio/pool"
)

// config has that many slots and topics, and blocks of these classes; Small is 4.
func config(slots, topics, firstSize, firstCount, secondSize, secondCount int) api.Config {
	return api.Config{Topics: topics, Small: 4, Slots: slots, Clients: 2, Retry: 3,
		Classes: [2]api.Class{{Size: firstSize, Count: firstCount}, {Size: secondSize, Count: secondCount}}}
}

// configs are right ones: with no blocks, with some of one class or of both, with as many as there may be.
func configs() []api.Config {
	most := config(8, 8, 95, 12, 96, 12)
	most.Small, most.Clients, most.Retry = 32, 8, 8
	return []api.Config{
		config(1, 1, 4, 0, 5, 0), config(1, 1, 4, 2, 8, 1), config(1, 1, 4, 1, 8, 1), config(1, 1, 4, 3, 6, 2),
		config(3, 2, 7, 4, 8, 0), config(2, 5, 4, 0, 96, 5), config(1, 1, 4, 2, 5, 2), config(4, 3, 6, 12, 10, 1), config(1, 1, 4, 1, 5, 12), most,
	}
}

// wrongConfigs are not right: each is a right one with one number that may not be.
func wrongConfigs() []api.Config {
	all := []api.Config{{}}
	for _, n := range []int{math.MinInt, -1, 97, math.MaxInt} {
		for i := range 9 {
			c := config(1, 1, 4, 2, 8, 1)
			*[]*int{&c.Topics, &c.Small, &c.Slots, &c.Clients, &c.Retry,
				&c.Classes[0].Size, &c.Classes[0].Count, &c.Classes[1].Size, &c.Classes[1].Count}[i] = n
			all = append(all, c)
		}
	}
	return append(all, config(1, 1, 8, 2, 8, 1), config(1, 1, 8, 2, 4, 1), config(1, 1, 4, 13, 8, 1), config(0, 1, 4, 2, 8, 1))
}

// far are numbers of no class, and of no block.
func far() []int {
	return []int{math.MinInt, -1 << 32, -1<<32 + 1, -1 << 31, -2, -1, 25, 26, 1<<31 - 1, 1 << 31, 1<<32 - 1, 1 << 32, 1<<32 + 1, math.MaxInt}
}

// spelled is where a right config's blocks are, as chapter 4 lays them: of each block its class and the word of its head; and how many words there are.
type spelled struct {
	class, word map[int]int
	size        int
}

func spell(c api.Config) spelled {
	s := spelled{map[int]int{}, map[int]int{}, 5 + c.Slots + c.Topics + c.Topics*(1+2*c.Small)}
	b := 0
	for class, blocks := range c.Classes {
		for range blocks.Count {
			b++
			s.class[b], s.word[b] = class, s.size
			s.size += 1 + blocks.Size
		}
	}
	return s
}

// of are the class's blocks, rising.
func (s spelled) of(class int) []int {
	var all []int
	for b := 1; b <= len(s.class); b++ {
		if s.class[b] == class {
			all = append(all, b)
		}
	}
	return all
}

// list is the class's list, and whether it is one: of the class's blocks, none of them twice.
func (s spelled) list(words []uint64, class int) ([]int, bool) {
	var all []int
	for at := 3 + class; ; {
		number := int(words[at] % (1 << 32))
		if number == 0 {
			return all, true
		}
		if got, is := s.class[number]; !is || got != class || slices.Contains(all, number) {
			return nil, false
		}
		all = append(all, number)
		at = s.word[number]
	}
}

// isList holds the class's list of an arena against the blocks that it is to have, in order.
func isList(t *testing.T, c api.Config, a *arena.Arena, class int, want ...int) {
	t.Helper()
	if got, is := spell(c).list(a.Words(), class); !is || !slices.Equal(got, want) {
		t.Fatalf("the list of %d: %v, %v, want %v", class, got, is, want)
	}
}

// made is a config's arena.
func made(t *testing.T, c api.Config) *arena.Arena {
	t.Helper()
	a, err := plan.Make(c)
	if err != nil {
		t.Fatal(err)
	}
	return a
}

// laid is an arena of these words, each of them stored, so that many steps are behind it.
func laid(words []uint64) *arena.Arena {
	a := arena.New(len(words))
	for i, w := range words {
		a.Store(i, w)
	}
	return a
}

// run is a run of either kind.
type run interface {
	Step(a *arena.Arena) bool
	Done() bool
}

// blockOf is what a run tells as its block; 0 of a Give, which tells none.
func blockOf(r run) int {
	if take, is := r.(*pool.Take); is {
		return take.Block()
	}
	return 0
}

// farthest is how many steps a test does of a run that is to be done much earlier.
const farthest = 100

// finish steps the run till it is done, and tells how many steps that took.
func finish(t *testing.T, a *arena.Arena, r run) int {
	t.Helper()
	for n := range farthest {
		if r.Done() {
			return n
		}
		r.Step(a)
	}
	t.Fatalf("a run is not done behind %d steps", farthest)
	return 0
}

// stepped does a step of the run, and holds what the arena tells of it, and what the run tells, against what is asked.
func stepped(t *testing.T, a *arena.Arena, r run, want api.Access, done bool, block int) {
	t.Helper()
	steps := a.Steps()
	said := r.Step(a)
	if got := a.Last(); got != want || a.Steps() != steps+1 {
		t.Fatalf("the step %+v, behind %d ones %d, want %+v", got, steps, a.Steps(), want)
	}
	if said != done || r.Done() != done || blockOf(r) != block {
		t.Fatalf("behind the step %+v: %v, %v, block %d, want %v, block %d", want, said, r.Done(), blockOf(r), done, block)
	}
}

// still holds that a run which is done does no step, whatever the arena, and tells the same as ever.
func still(t *testing.T, a *arena.Arena, r run, block int) {
	t.Helper()
	steps, last, words := a.Steps(), a.Last(), a.Words()
	for _, on := range []*arena.Arena{a, nil, a} {
		if !r.Step(on) || !r.Done() || blockOf(r) != block {
			t.Fatalf("a run that is done: done %v, block %d, want %d", r.Done(), blockOf(r), block)
		}
	}
	if a.Steps() != steps || a.Last() != last || !slices.Equal(a.Words(), words) {
		t.Fatalf("a run that is done did %d steps, the last one %+v", a.Steps()-steps, a.Last())
	}
}

// load, store, swap are steps as an arena tells them: the word, and its value behind the step; a swap that was told true, or false.
func load(word int, value uint64) api.Access {
	return api.Access{Kind: api.Load, Word: word, Value: value}
}

func store(word int, value uint64) api.Access {
	return api.Access{Kind: api.Store, Word: word, Value: value, Changed: true}
}

func swap(word int, value uint64, changed bool) api.Access {
	return api.Access{Kind: api.Swap, Word: word, Value: value, Changed: changed}
}

// noWord is an arena's trouble of a step upon a word that there is not.
func noWord(word int) error { return cause.At(cause.New(api.ErrRange), word) }

// drawer tells numbers that look drawn by chance, and are the same each time.
type drawer struct{ seed uint64 }

func (d *drawer) word() uint64 {
	d.seed++
	return bits.Mix(d.seed)
}

// below is a number from 0 on, below that one.
func (d *drawer) below(n int) int { return int(d.word() % uint64(n)) }
