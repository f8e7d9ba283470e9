package arena

import (
	"intaglio/api"
	"intaglio/cause"
)

// step counts a step, and keeps and tells what it was. What it does is told by do, which is given the word, and tells what that is behind it, and whether the step changed it.
func (a *Arena) step(kind, i int, do func(word uint64) (uint64, bool)) api.Access {
	if a == nil {
		return api.Access{}
	}
	a.steps.Add(1)
	a.last = api.Access{Kind: kind, Word: i}
	if i < 0 || i >= len(a.words) {
		a.fail(i)
		return a.last
	}
	a.words[i], a.last.Changed = do(a.words[i])
	a.last.Value = a.words[i]
	return a.last
}

// fail keeps the trouble that there is no i-th word, if it is the first one.
func (a *Arena) fail(i int) {
	if a.err == nil {
		a.err = cause.At(cause.New(api.ErrRange), i)
	}
}
