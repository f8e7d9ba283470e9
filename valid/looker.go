package valid

import (
	"intaglio/api"
	"intaglio/bits"
	"intaglio/build"
	"intaglio/cause"
	"intaglio/schema"
)

// wrong is the panic that ends looking.
type wrong struct{ trouble error }

// looker looks at words, and counts those that it claimed. A word that is claimed twice counts twice: so words that refer to the same ones over and over are soon too many, and looking ends.
type looker struct {
	schema  api.Schema
	words   []uint64
	claimed int
}

// field is a field of a struct that is visited: its word, its kind, of which type the structs are that it refers to, and how deep the struct lies that has it.
type field struct{ at, kind, inner, depth int }

// look looks at all the words, and tells the first trouble, which comes as a panic out of whatever depth it was found in.
func (l *looker) look() (err error) {
	defer func() {
		if found := recover(); found != nil {
			// Any other panic is a fault of the program, and must not pass for a right message: the assertion lets it out.
			err = found.(wrong).trouble
		}
	}()
	l.lookAtAll()
	return nil
}

// lookAtAll looks at the words from the first one on; the first trouble ends it.
func (l *looker) lookAtAll() {
	if err := schema.Check(l.schema); err != nil {
		panic(wrong{err})
	}
	if len(l.words) == 0 || len(l.words) > api.MaxMessage {
		panic(wrong{cause.New(api.ErrSize)})
	}
	// The first word is no reference, but has its halves.
	size, t := build.Part(l.words[0])
	if size != len(l.words) || t >= len(l.schema) {
		tell(api.ErrForm, 0)
	}
	l.claim(0, 1, schema.Fields(l.schema, t))
	l.visit(t, 1, 1)
}

// tell ends looking with a trouble at the word p.
func tell(code api.Errno, p int) {
	panic(wrong{cause.At(cause.New(code), p)})
}

// claim claims so many words, from one on, for the word p.
func (l *looker) claim(p, from, count int) {
	l.claimed += count
	if from+count > len(l.words) {
		tell(api.ErrRange, p)
	}
	if l.claimed > len(l.words)-1 {
		tell(api.ErrOver, p)
	}
}

// visit visits a struct of type t, whose words, that were claimed, begin at the word at.
func (l *looker) visit(t, at, depth int) {
	for i := range schema.Fields(l.schema, t) {
		l.visitField(field{at: at + i, kind: schema.Kind(l.schema, t, i), inner: schema.Type(l.schema, t, i), depth: depth})
	}
}

// visitField asks what is asked of all references, and follows one; a number is right as it is.
func (l *looker) visitField(f field) {
	most := 1
	switch f.kind {
	case api.Bytes:
		most = api.MaxBytes
		fallthrough
	case api.Nums, api.Many:
		most = max(most, api.MaxItems)
		fallthrough
	case api.One:
		word := l.words[f.at]
		if word == 0 {
			return
		}
		offset, n := build.Part(word)
		if offset == 0 || n == 0 || n > most {
			tell(api.ErrForm, f.at)
		}
		l.follow(f, f.at+offset, n)
	}
}

// follow claims the n things at the word to, to which the field refers, and looks at them.
func (l *looker) follow(f field, to, n int) {
	switch f.kind {
	case api.Bytes:
		count := bits.Count(n)
		l.claim(f.at, to, count)
		if _, ok := bits.Text(l.words[to:to+count], n); !ok {
			tell(api.ErrForm, f.at)
		}
	case api.Nums:
		l.claim(f.at, to, n)
	case api.One, api.Many:
		l.visitStructs(f, to, n)
	}
}

// visitStructs claims the words of all n structs ahead of visiting any of them.
func (l *looker) visitStructs(f field, to, n int) {
	if f.depth == api.MaxDepth {
		tell(api.ErrOver, f.at)
	}
	fields := schema.Fields(l.schema, f.inner)
	l.claim(f.at, to, n*fields)
	for i := range n {
		l.visit(f.inner, to+i*fields, f.depth+1)
	}
}
