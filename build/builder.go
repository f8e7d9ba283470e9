package build

import (
	"intaglio/api"
	"intaglio/bits"
	"intaglio/schema"
)

// builder lays a message, whose words so far it has.
type builder struct {
	schema api.Schema
	words  []uint64
}

// field is a field of a struct that is laid: at which word of the message, of which kind, of which type the structs in it are, and what it has.
type field struct {
	at, kind, inner int
	has             api.Tree
}

// eachField hands on the fields of right structs of type t, whose words begin at the word at, one struct's behind the other's.
func eachField(s api.Schema, t, at int, structs []api.Tree, do func(f field)) {
	for _, v := range structs {
		for i, has := range v.Kids {
			do(field{at: at, kind: schema.Kind(s, t, i), inner: schema.Type(s, t, i), has: has})
			at++
		}
	}
}

// layStructs lays the words of all the structs, and then what these refer to: the fields are gone over twice, as no offset is known ahead of that.
func (b *builder) layStructs(t int, structs []api.Tree) {
	at := len(b.words)
	eachField(b.schema, t, at, structs, b.layOwn)
	eachField(b.schema, t, at, structs, b.layBehind)
}

// layOwn lays the field's own word. A right field that is no number has 0 as one: it refers to nothing as yet.
func (b *builder) layOwn(f field) {
	b.words = append(b.words, f.has.Num)
}

// layBehind lays what the field refers to, if it does, behind all that was laid so far.
func (b *builder) layBehind(f field) {
	n, words := len(f.has.Nums), f.has.Nums
	switch f.kind {
	case api.Bytes:
		n, words = len(f.has.Bytes), bits.Words(f.has.Bytes)
		fallthrough
	case api.Nums:
		b.refer(f.at, n)
		b.words = append(b.words, words...)
	case api.One, api.Many:
		b.refer(f.at, len(f.has.Kids))
		b.layStructs(f.inner, f.has.Kids)
	}
}

// refer lets the word at refer to n things that are laid next; to nothing, if they are none.
func (b *builder) refer(at, n int) {
	if n > 0 {
		b.words[at] = Ref(len(b.words)-at, n)
	}
}
