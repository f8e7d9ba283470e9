package slots

import (
	"maps"
	"slices"

	"intaglio/api"
	"intaglio/bits"
	"intaglio/plan"
)

// free is the word of a slot that is nobody's.
const free = 0

// What there is not: the client, and the slot, that there is not, and the block.
const (
	nobody = -1
	noSlot = -1
	none   = 0
)

// half is how many bits of a slot's word tell the block, and how many above these tell the client.
const half = 32

// Mark is the client's word of a slot, of that block (0: none).
func Mark(client, block int) uint64 {
	// The client's number goes up by one, as 0 says that the slot is nobody's.
	return low(uint64(client)+1)<<half | low(uint64(block))
}

// Client is the client whose word it is; -1, if it is nobody's.
func Client(w uint64) int {
	number := bits.Get(w, half, half)
	if number == 0 {
		return nobody
	}
	return int(number - 1)
}

// Block is the block that the word names; 0, if it names none.
func Block(w uint64) int { return int(low(w)) }

// Named are all blocks that somebody's slot names, rising, each once; none, if the config is not right, or there are not just as many words as its arena has.
func Named(c api.Config, words []uint64) []int {
	if plan.Check(c) != nil || len(words) != plan.Size(c) {
		return nil
	}
	// How many slots name each block.
	named := map[int]int{}
	for i := range c.Slots {
		w := words[plan.Slot(c, i)]
		if Client(w) != nobody && Block(w) != none {
			named[Block(w)]++
		}
	}
	return slices.Sorted(maps.Keys(named))
}

// low is the lower half of a word.
func low(w uint64) uint64 { return bits.Get(w, 0, half) }
