package tree

import (
	"intaglio/api"
	"intaglio/bits"
)

// A tree of which nobody asked whether it is right may have itself among its Kids, or the same ones so often that it has no end. These are more levels, and as many trees, as the document promises anything of: what lies beyond is not looked at.
const (
	mostLevels = 1 << 18
	mostTrees  = 1<<31 - 1
)

// bounds tells of each tree in turn, by its level, whether it may still be gone into.
func bounds() func(level int) bool {
	trees := 0
	return func(level int) bool {
		trees++
		return level <= mostLevels && trees <= mostTrees
	}
}

// eachStruct visits v, and what lies within it as structs do: each Kid of a Kid of one, with how deep it is, behind the one that it lies in. It ends where visit says no.
func eachStruct(v api.Tree, visit func(v api.Tree, depth int) bool) {
	var enter func(v api.Tree, depth int) bool
	enter = func(v api.Tree, depth int) bool {
		more := visit(v, depth)
	fields:
		for _, field := range v.Kids {
			for _, inner := range field.Kids {
				if !more {
					break fields
				}
				more = enter(inner, depth+1)
			}
		}
		return more
	}
	enter(v, 1)
}

// words is how many words a right struct takes, without those of the structs within it.
func words(v api.Tree) int {
	n := len(v.Kids)
	for _, field := range v.Kids {
		// A right field has either of these, or none.
		n += bits.Count(len(field.Bytes)) + len(field.Nums)
	}
	return n
}
