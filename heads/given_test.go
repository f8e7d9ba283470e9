package heads_test

import (
	"math"
	"slices"
	"testing"

	"intaglio/api"
	"intaglio/bits"
	"intaglio/cause"
)

// config has that many slots and topics, and blocks of these classes; Small is 4.
func config(slots, topics, firstSize, firstCount, secondSize, secondCount int) api.Config {
	return api.Config{Topics: topics, Small: 4, Slots: slots, Clients: 2, Retry: 3,
		Classes: [2]api.Class{{Size: firstSize, Count: firstCount}, {Size: secondSize, Count: secondCount}}}
}

// configs are right ones: with no blocks, with some of one class or of both, with as many as there may be.
func configs() []api.Config {
	most := config(8, 8, 95, 12, 96, 12)
	most.Small, most.Clients, most.Retry = 32, 8, 8
	return []api.Config{
		config(1, 1, 4, 0, 5, 0), config(1, 1, 4, 2, 8, 1), config(1, 1, 4, 1, 8, 1), config(1, 1, 4, 3, 6, 2),
		config(3, 2, 7, 4, 8, 0), config(2, 5, 4, 0, 96, 5), config(1, 1, 4, 2, 5, 2), config(4, 3, 6, 12, 10, 1), config(1, 1, 4, 1, 5, 12), most,
	}
}

// wrongConfigs are not right: each is a right one with one number that may not be.
func wrongConfigs() []api.Config {
	all := []api.Config{{}}
	for _, n := range []int{math.MinInt, -1, 97, math.MaxInt} {
		for i := range 9 {
			c := config(1, 1, 4, 2, 8, 1)
			*[]*int{&c.Topics, &c.Small, &c.Slots, &c.Clients, &c.Retry,
				&c.Classes[0].Size, &c.Classes[0].Count, &c.Classes[1].Size, &c.Classes[1].Count}[i] = n
			all = append(all, c)
		}
	}
	return append(all, config(1, 1, 8, 2, 8, 1), config(1, 1, 8, 2, 4, 1), config(1, 1, 4, 13, 8, 1), config(0, 1, 4, 2, 8, 1))
}

// wrongClasses are numbers of no class.
func wrongClasses() []int {
	return []int{math.MinInt, -1 << 32, -2, -1, 2, 3, 4, 1 << 31, 1 << 32, 1<<32 + 1, math.MaxInt}
}

// spelled is where a right config's blocks are, as chapter 4 lays them: of each block its class and the word of its head; and how many words there are.
type spelled struct {
	class, word map[int]int
	size        int
}

func spell(c api.Config) spelled {
	s := spelled{map[int]int{}, map[int]int{}, 5 + c.Slots + c.Topics + c.Topics*(1+2*c.Small)}
	b := 0
	for class, blocks := range c.Classes {
		for range blocks.Count {
			b++
			s.class[b], s.word[b] = class, s.size
			s.size += 1 + blocks.Size
		}
	}
	return s
}

// of are the class's blocks, rising.
func (s spelled) of(class int) []int {
	var all []int
	for b := 1; b <= len(s.class); b++ {
		if s.class[b] == class {
			all = append(all, b)
		}
	}
	return all
}

// row is words in which each class has the list that is told, all else is 0.
func (s spelled) row(first, second []int) []uint64 {
	words := make([]uint64, s.size)
	for class, list := range [][]int{first, second} {
		at := 3 + class
		for _, b := range list {
			words[at] = uint64(b)
			at = s.word[b]
		}
	}
	return words
}

// told is what List tells.
type told struct {
	blocks []int
	err    error
}

// listed is what List is to tell of a right config, a class and so many words as there are to be: the numbers are gathered first, one more than the class has at most; what they are worth is asked then.
func (s spelled) listed(words []uint64, class int) told {
	var numbers []int
	at := 3 + class
	for len(numbers) <= len(s.of(class)) {
		number := int(words[at] % (1 << 32))
		numbers = append(numbers, number)
		if got, is := s.class[number]; !is || got != class {
			break
		}
		if len(numbers) <= len(s.of(class)) {
			at = s.word[number]
		}
	}
	last := len(numbers) - 1
	switch {
	case numbers[last] == 0:
		return told{numbers[:last], nil}
	case !slices.Contains(s.of(class), numbers[last]):
		return told{nil, cause.At(cause.New(api.ErrForm), at)}
	}
	return told{nil, cause.At(cause.New(api.ErrOver), at)}
}

// check holds what was told against what was to be: troubles that are made alike are equal, and beside one there is no list.
func check(t *testing.T, what string, got, want told) {
	t.Helper()
	if !slices.Equal(got.blocks, want.blocks) || got.err != want.err {
		t.Fatalf("%s: %v, %v, want %v, %v", what, got.blocks, got.err, want.blocks, want.err)
	}
}

// drawer tells numbers that look drawn by chance, and are the same each time.
type drawer struct{ seed uint64 }

func (d *drawer) word() uint64 {
	d.seed++
	return bits.Mix(d.seed)
}

// below is a number from 0 on, below that one.
func (d *drawer) below(n int) int { return int(d.word() % uint64(n)) }

// some are some of the blocks, or all, or none, in any order.
func (d *drawer) some(blocks []int) []int {
	out := slices.Clone(blocks)
	for i := range out {
		k := i + d.below(len(out)-i)
		out[i], out[k] = out[k], out[i]
	}
	return out[:d.below(len(out)+1)]
}
