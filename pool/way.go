package pool

import (
	"intaglio/arena"
	"intaglio/heads"
	"intaglio/plan"
)

// way is a run's way to the head of a class's list.
type way struct {
	class int
	seen  uint64 // the head, as it was when the run looked at it last
}

// look is a step: it looks at the head.
func (w *way) look(a *arena.Arena) { w.seen = a.Load(plan.Head(w.class)) }

// first is the block that the list began with, when it was looked at.
func (w *way) first() int { return heads.Block(w.seen) }

// turn is a step: it lets the list begin with that block, if nobody has turned the head since it was looked at; it tells whether it did.
func (w *way) turn(a *arena.Arena, block int) bool {
	return a.Swap(plan.Head(w.class), w.seen, heads.Turn(w.seen, block))
}
