package slots_test

import (
	"math"
	"slices"
	"testing"

	"intaglio/api"
	"intaglio/arena"
	"intaglio/bits"
	"intaglio/cause"
	"intaglio/plan"
	"intaglio/slots"
)

// config has that many slots, clients and topics, and two blocks of each class.
func config(slots, clients, topics int) api.Config {
	return api.Config{Topics: topics, Small: 4, Slots: slots, Clients: clients, Retry: 3,
		Classes: [2]api.Class{{Size: 4, Count: 2}, {Size: 6, Count: 2}}}
}

// byHand is the config of most tests: its slots 0 to 2 are the words 5 to 7, and it has clients 0 to 3.
func byHand() api.Config { return config(3, 4, 1) }

// byHandSize is how many words its arena has.
const byHandSize = 5 + 3 + 1 + 9 + 2*5 + 2*7

// configs are right ones: of one slot up to as many as there may be, with fewer clients than slots, and with more, with no blocks, and with as many as there may be.
func configs() []api.Config {
	bare := config(2, 2, 1)
	bare.Classes = [2]api.Class{{Size: 4}, {Size: 5}}
	most := config(8, 8, 8)
	most.Small, most.Retry, most.Classes = 32, 8, [2]api.Class{{Size: 95, Count: 12}, {Size: 96, Count: 12}}
	return []api.Config{config(1, 1, 1), config(1, 8, 2), config(2, 3, 1), byHand(), config(8, 1, 3), config(5, 5, 5), bare, most}
}

// wrongConfigs are not right: each is a right one with one number that may not be.
func wrongConfigs() []api.Config {
	all := []api.Config{{}, {Slots: 3, Clients: 4}}
	for _, n := range []int{math.MinInt, -1, 97, math.MaxInt} {
		for i := range 9 {
			c := byHand()
			*[]*int{&c.Topics, &c.Small, &c.Slots, &c.Clients, &c.Retry,
				&c.Classes[0].Size, &c.Classes[0].Count, &c.Classes[1].Size, &c.Classes[1].Count}[i] = n
			all = append(all, c)
		}
	}
	return append(all, config(0, 4, 1), config(9, 4, 1), config(3, 0, 1), config(3, 9, 1), config(3, 4, 0), config(3, 4, 9))
}

// far are numbers of no client, and of no slot.
func far() []int {
	return []int{math.MinInt, -1 << 32, -1<<32 + 1, -1 << 31, -2, -1, 8, 9, 1<<31 - 1, 1 << 31, 1<<32 - 1, 1 << 32, 1<<32 + 1, math.MaxInt}
}

// slotWord is the word of a slot, as chapter 4 lays them: five words are ahead of them.
func slotWord(slot int) int { return 5 + slot }

// size is how many words a right config's arena has, as chapter 4 lays them.
func size(c api.Config) int {
	n := slotWord(c.Slots) + c.Topics + c.Topics*(1+2*c.Small)
	for _, blocks := range c.Classes {
		n += blocks.Count * (1 + blocks.Size)
	}
	return n
}

// said is a slot's word of that client and block, where both fit.
func said(client, block uint64) uint64 { return (client+1)*(1<<32) + block }

// row is byHand's words, with these in its slots; all else is words that would be slots' ones of blocks.
func row(inSlots ...uint64) []uint64 {
	words := make([]uint64, byHandSize)
	for i := range words {
		words[i] = said(1, 90+uint64(i))
	}
	copy(words[slotWord(0):slotWord(3)], inSlots)
	return words
}

// made is a config's arena.
func made(t *testing.T, c api.Config) *arena.Arena {
	t.Helper()
	a, err := plan.Make(c)
	if err != nil {
		t.Fatal(err)
	}
	return a
}

// laid is an arena of these words, each of them stored, so that many steps are behind it.
func laid(words []uint64) *arena.Arena {
	a := arena.New(len(words))
	for i, w := range words {
		a.Store(i, w)
	}
	return a
}

// run is a run of either kind.
type run interface {
	Step(a *arena.Arena) bool
	Done() bool
}

// slotOf is what a run tells as its slot; -1 of a Release, which tells none.
func slotOf(r run) int {
	if claim, is := r.(*slots.Claim); is {
		return claim.Slot()
	}
	return -1
}

// farthest is how many steps a test does of a run that is to be done much earlier.
const farthest = 100

// finish steps the run till it is done, and tells how many steps that took.
func finish(t *testing.T, a *arena.Arena, r run) int {
	t.Helper()
	for n := range farthest {
		if r.Done() {
			return n
		}
		r.Step(a)
	}
	t.Fatalf("a run is not done behind %d steps", farthest)
	return 0
}

// stepped does a step of the run, and holds what the arena tells of it, and what the run tells, against what is asked.
func stepped(t *testing.T, a *arena.Arena, r run, want api.Access, done bool, slot int) {
	t.Helper()
	steps := a.Steps()
	told := r.Step(a)
	if got := a.Last(); got != want || a.Steps() != steps+1 {
		t.Fatalf("the step %+v, behind %d ones %d, want %+v", got, steps, a.Steps(), want)
	}
	if told != done || r.Done() != done || slotOf(r) != slot {
		t.Fatalf("behind the step %+v: %v, %v, slot %d, want %v, slot %d", want, told, r.Done(), slotOf(r), done, slot)
	}
}

// still holds that a run which is done does no step, whatever the arena, and tells the same as ever.
func still(t *testing.T, a *arena.Arena, r run, slot int) {
	t.Helper()
	steps, last, words := a.Steps(), a.Last(), a.Words()
	for _, on := range []*arena.Arena{a, nil, a} {
		if !r.Step(on) || !r.Done() || slotOf(r) != slot {
			t.Fatalf("a run that is done: done %v, slot %d, want %d", r.Done(), slotOf(r), slot)
		}
	}
	if a.Steps() != steps || a.Last() != last || !slices.Equal(a.Words(), words) {
		t.Fatalf("a run that is done did %d steps, the last one %+v", a.Steps()-steps, a.Last())
	}
}

// store, swap are steps as an arena tells them: the word, and its value behind the step; a swap that was told true, or false.
func store(word int, value uint64) api.Access {
	return api.Access{Kind: api.Store, Word: word, Value: value, Changed: true}
}

func swap(word int, value uint64, changed bool) api.Access {
	return api.Access{Kind: api.Swap, Word: word, Value: value, Changed: changed}
}

// noWord is an arena's trouble of a step upon a word that there is not.
func noWord(word int) error { return cause.At(cause.New(api.ErrRange), word) }

// drawer tells numbers that look drawn by chance, and are the same each time.
type drawer struct{ seed uint64 }

func (d *drawer) word() uint64 {
	d.seed++
	return bits.Mix(d.seed)
}

// below is a number from 0 on, below that one.
func (d *drawer) below(n int) int { return int(d.word() % uint64(n)) }
