package plan

import "intaglio/api"

// How many there are of what a config does not count.
const (
	classes = 2
	buffers = 2
)

// The words ahead of the slots, which lie where they do in every arena.
const (
	magicWord  = 0
	configWord = 1
	seqWord    = 2
	headWord   = 3
	slotWord   = headWord + classes
)

// layout tells of each kind of things where the i-th one's first word is, from 0 on (-1, if there is none), and how many words there are.
type layout struct {
	slot, entry, topic func(i int) int
	blocks             [classes]func(i int) int
	size               int
}

// lay lays the rows of things one behind the other. Of a config that is not right, there is nothing in any row.
func lay(c api.Config) layout {
	if Check(c) != nil {
		c = api.Config{}
	}
	next := slotWord
	row := func(count, size int) func(i int) int {
		first := next
		next += count * size
		return func(i int) int {
			if i < 0 || i >= count {
				return none
			}
			return first + i*size
		}
	}
	var l layout
	l.slot = row(c.Slots, 1)
	l.entry = row(c.Topics, 1)
	l.topic = row(c.Topics, 1+buffers*c.Small)
	for class, blocks := range c.Classes {
		l.blocks[class] = row(blocks.Count, 1+blocks.Size)
	}
	l.size = next
	return l
}

// firstBlock is the number of the class's first block, if it has one. The config is right.
func firstBlock(c api.Config, class int) int {
	if class == 0 {
		return 1
	}
	return 1 + c.Classes[0].Count
}

// firstWords are the words of an arena that was just made: each class's list has all its blocks. The config is right.
func firstWords(c api.Config) []uint64 {
	l := lay(c)
	words := make([]uint64, l.size)
	words[magicWord] = api.Magic
	words[configWord] = Pack(c)
	for class, blocks := range c.Classes {
		// A block's number is put into the word that leads to it: the class's head, or the head of the block ahead of it.
		leads := Head(class)
		for i := range blocks.Count {
			words[leads] = uint64(firstBlock(c, class) + i)
			leads = l.blocks[class](i)
		}
	}
	return words
}
