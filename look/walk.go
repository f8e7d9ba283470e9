package look

import (
	"intaglio/api"
	"intaglio/bits"
	"intaglio/build"
	"intaglio/schema"
)

// Walk goes a path of a struct, and asks for the words that it needs, one after the other.
type Walk struct {
	schema api.Schema
	path   []int // what of it is still ahead

	// The word that it needs, if it does: which one; what of it is told, if the path ends there; else, of which kind the field is whose word it is, and of which type the structs in that.
	needs       bool
	word        int
	ends        part
	kind, inner int

	// What is told, if it needs none.
	number uint64
	code   api.Errno
}

// part is some of a word's bits: from the bit at on, size many.
type part struct{ at, size int }

// of is the number of that part of the word.
func (p part) of(word uint64) uint64 { return bits.Get(word, p.at, p.size) }

// The parts of words that are told: a number is a whole word; how many there are is the upper half of a reference.
const (
	wordBits = 64
	halfBits = wordBits / 2
	byteBits = 8
)

// enter asks for the word of the field that the path's next number tells, of a struct of type t whose words begin at the word at.
func (w *Walk) enter(t, at int) {
	if len(w.path) == 0 {
		w.tell(0, api.ErrArg)
		return
	}
	i := w.pass()
	if !isAmong(i, schema.Fields(w.schema, t)) {
		w.tell(0, api.ErrArg)
		return
	}
	w.kind, w.inner = schema.Kind(w.schema, t, i), schema.Type(w.schema, t, i)
	ends := part{halfBits, halfBits}
	if w.kind == api.Num {
		ends = part{0, wordBits}
	}
	w.ask(at+i, ends)
}

// follow goes on behind the field whose word this is, as the path does.
func (w *Walk) follow(word uint64) {
	offset, n := build.Part(word)
	to, which, size := w.word+offset, 0, wordBits
	switch w.kind {
	case api.Bytes:
		size = byteBits
		fallthrough
	case api.Nums:
		w.followItems(to, n, size)
	case api.Many:
		which = w.pass()
		fallthrough
	case api.One:
		w.followStructs(to, n, which)
	default:
		w.tell(0, api.ErrKind)
	}
}

// followItems asks for the word of the item that the path's next number tells, of n that begin at the word at, each so many bits long. The path must end there: nothing lies behind an item.
func (w *Walk) followItems(at, n, size int) {
	which := w.pass()
	if !isAmong(which, n) {
		w.tell(0, api.ErrNone)
		return
	}
	if len(w.path) > 0 {
		w.tell(0, api.ErrKind)
		return
	}
	first := which * size
	w.ask(at+first/wordBits, part{first % wordBits, size})
}

// followStructs enters the one of n structs, whose words begin at the word at, if the path goes on in it.
func (w *Walk) followStructs(at, n, which int) {
	fields := schema.Fields(w.schema, w.inner)
	if !isAmong(which, n) {
		w.tell(0, api.ErrNone)
		return
	}
	if len(w.path) == 0 {
		w.tell(uint64(fields), api.OK)
		return
	}
	w.enter(w.inner, at+which*fields)
}

// pass is the path's next number, which is no longer ahead then.
func (w *Walk) pass() int {
	next := w.path[0]
	w.path = w.path[1:]
	return next
}

// ask lets the walk need a word, of which that part is told, if the path ends there.
func (w *Walk) ask(word int, ends part) {
	w.needs, w.word, w.ends = true, word, ends
}

// tell ends the walk.
func (w *Walk) tell(number uint64, code api.Errno) {
	w.number, w.code = number, code
}

// isAmong asks whether i is one of so many, numbered from 0.
func isAmong(i, n int) bool { return i >= 0 && i < n }
