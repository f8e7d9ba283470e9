package look_test

import (
	"math"
	"slices"
	"strings"
	"testing"

	"intaglio/api"
	"intaglio/bits"
	"intaglio/build"
	"intaglio/tree"
)

// Fields of a schema.
func num() api.Field       { return api.Field{Kind: api.Num} }
func bytes() api.Field     { return api.Field{Kind: api.Bytes} }
func nums() api.Field      { return api.Field{Kind: api.Nums} }
func one(t int) api.Field  { return api.Field{Kind: api.One, Type: t} }
func many(t int) api.Field { return api.Field{Kind: api.Many, Type: t} }

// Trees: a number, a text, numbers, and what has Kids (a struct its fields, a field its structs).
func n(x uint64) api.Tree           { return api.Tree{Num: x} }
func text(s string) api.Tree        { return api.Tree{Bytes: s} }
func row(x ...uint64) api.Tree      { return api.Tree{Nums: x} }
func kids(all ...api.Tree) api.Tree { return api.Tree{Kids: all} }

// ref is a reference to n things, so many words behind it.
func ref(offset, n uint64) uint64 { return n<<32 + offset }

// msg is the words of a message of type t: its first word, and the others.
func msg(t uint64, others ...uint64) []uint64 {
	return append([]uint64{t<<32 + uint64(len(others)) + 1}, others...)
}

// wrongSchemas are schemas that are not right.
func wrongSchemas() []api.Schema {
	return []api.Schema{nil, {}, {nil}, {{num()}, {}}, {{{Kind: 0}}}, {{{Kind: 6}}}, {{{Kind: -1}}},
		{{{Kind: api.Num, Type: 1}}, {num()}}, {{one(1)}}, {{many(-1)}}, {slices.Repeat([]api.Field{num()}, 7)},
		slices.Repeat(api.Schema{{num()}}, 9)}
}

// wild are numbers that no path goes on with, or that are greater than what there mostly is.
func wild() []int {
	return []int{math.MinInt, -1 << 32, -1, 0, 1, 5, 6, 11, 12, 39, 40, 1<<31 - 1, 1<<32 - 1, 1 << 32, 1<<32 + 1, math.MaxInt}
}

// value is a schema, a type of it, and a struct of that.
type value struct {
	s api.Schema
	t int
	v api.Tree
}

// drawer tells numbers that look drawn by chance, and are the same each time.
type drawer struct{ seed uint64 }

func (d *drawer) word() uint64 {
	d.seed++
	return bits.Mix(d.seed)
}

// below is a number from 0 on, below that one.
func (d *drawer) below(n int) int { return int(d.word() % uint64(n)) }

// broad is a schema with all kinds of fields; its types lead to one another, and to themselves.
func broad() api.Schema {
	return api.Schema{{num(), bytes(), nums(), one(1), many(2)}, {many(0), num()}, {bytes(), one(2), nums(), num()}}
}

// schema is a right one, of few types mostly.
func (d *drawer) schema() api.Schema {
	s := make(api.Schema, []int{1, 2, 3, 8}[d.below(4)])
	for t := range s {
		s[t] = make([]api.Field, 1+d.below(6))
		for i := range s[t] {
			s[t][i] = []api.Field{num(), bytes(), nums(), one(d.below(len(s))), many(d.below(len(s)))}[d.below(5)]
		}
	}
	return s
}

// value is a right struct of type t, so many deep at the most, with something in some of its fields.
func (d *drawer) value(s api.Schema, t, depth int) api.Tree {
	v := kids(make([]api.Tree, len(s[t]))...)
	for i, f := range s[t] {
		field := &v.Kids[i]
		switch f.Kind {
		case api.Num:
			field.Num = d.word() >> d.below(65)
		case api.Bytes:
			for range d.below(3) * d.below(21) {
				field.Bytes += string([]byte{byte(d.word())})
			}
		case api.Nums:
			for range d.below(2) * d.below(13) {
				field.Nums = append(field.Nums, d.word())
			}
		}
		most := map[int]int{api.One: 1, api.Many: []int{1, 3, 12}[d.below(3)]}[f.Kind]
		if depth == 1 {
			most = 0
		}
		for range d.below(most + 1) {
			field.Kids = append(field.Kids, d.value(s, f.Type, depth-1))
		}
	}
	return v
}

// byHand are structs with nothing in each field, with one thing, and with as much as there may be; and structs within structs.
func byHand() []value {
	twelve := func(v api.Tree) api.Tree { return kids(slices.Repeat([]api.Tree{v}, 12)...) }
	flat := kids(n(7), text("seven"), row(7, 77), kids(), kids())
	two := kids(text("two"), kids(kids(text(""), kids(), row(2), n(2))), row(), n(1))
	all := []value{
		{api.Schema{{num()}}, 0, kids(n(0))},
		{slices.Repeat(api.Schema{{num()}}, 8), 7, kids(n(math.MaxUint64))},
		{api.Schema{{nums()}}, 0, kids(row())},
		{api.Schema{{nums()}}, 0, kids(row(0))},
		{api.Schema{{nums()}}, 0, kids(row(1, 2, 3, 4, 5, 6, 7, 8, 9, 10, 11, 12))},
		{api.Schema{{one(1)}, {num()}}, 0, kids(kids())},
		{api.Schema{{one(1)}, {num()}}, 0, kids(kids(kids(n(3))))},
		{api.Schema{{one(1), one(1)}, {num(), nums()}}, 0, kids(kids(kids(n(3), row())), kids(kids(n(4), row(5))))},
		{api.Schema{{many(1)}, {num()}}, 0, kids(kids())},
		{api.Schema{{many(1)}, {num()}}, 0, kids(kids(kids(n(3))))},
		{api.Schema{{many(1)}, {num(), num(), num(), num(), num(), num()}}, 0, kids(twelve(kids(n(1), n(2), n(3), n(4), n(5), n(6))))},
		{broad(), 0, flat},
		{broad(), 0, kids(n(1), text("\x00\xff"), row(0), kids(kids(kids(flat, flat), n(2))), kids(two, two))},
		{broad(), 1, kids(kids(flat), n(9))},
		{broad(), 2, two},
	}
	for depth := range 5 {
		ones, manys := kids(kids()), kids(kids())
		for range depth {
			ones, manys = kids(kids(ones)), kids(kids(manys, manys))
		}
		all = append(all, value{api.Schema{{one(0)}}, 0, ones}, value{api.Schema{{many(0)}}, 0, manys})
	}
	for length := range 41 {
		all = append(all, value{api.Schema{{bytes()}}, 0, kids(text(strings.Repeat("é", 20)[:length]))})
		all = append(all, value{api.Schema{{bytes()}}, 0, kids(text(strings.Repeat("\x00", length)))})
	}
	return all
}

// built is a struct, and its message.
type built struct {
	value
	words []uint64
}

// messages are those of the structs by hand, and of as many that are drawn.
func messages(t *testing.T, drawn int) []built {
	t.Helper()
	var all []built
	add := func(c value) {
		if tree.Size(c.s, c.t, c.v) > 200 {
			return
		}
		words, err := build.Build(c.s, c.t, c.v)
		if err != nil {
			t.Fatalf("Build(%v, %d, %v): %v", c.s, c.t, c.v, err)
		}
		all = append(all, built{c, words})
	}
	for _, c := range byHand() {
		add(c)
	}
	d := &drawer{}
	for most := len(all) + drawn; len(all) < most; {
		s := broad()
		if len(all)%3 > 0 {
			s = d.schema()
		}
		ty := d.below(len(s))
		add(value{s, ty, d.value(s, ty, 1+d.below(5))})
	}
	return all
}

// bends are words like w, some of them right where it was.
func bends(w uint64) []uint64 {
	offset, n := w%(1<<32), w>>32
	return []uint64{0, w + 1, w - 1, w + 1<<32, w - 1<<32, math.MaxUint64, ref(0, n), ref(offset, 0), ref(1, n), ref(offset, 1), ref(1, 1),
		ref(offset, 12), ref(offset, 13), ref(offset, 40), ref(offset, 41), w ^ 1<<31, w ^ 1<<63}
}

// bent are the messages with each word changed in each way, and, of some, cut or gone on.
func bent(all []built) []built {
	var out []built
	for _, m := range all {
		for at := range m.words {
			for _, w := range bends(m.words[at]) {
				words := slices.Clone(m.words)
				words[at] = w
				out = append(out, built{m.value, words})
			}
			out = append(out, built{m.value, m.words[:at]})
		}
		for _, more := range []int{1, 20, 200} {
			words := append(slices.Clone(m.words), make([]uint64, more)...)
			out = append(out, built{m.value, slices.Clone(words)})
			words[0] += uint64(more)
			out = append(out, built{m.value, words})
		}
	}
	return out
}
