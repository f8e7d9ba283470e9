package build_test

import (
	"fmt"
	"math"
	"slices"
	"strings"
	"testing"

	"intaglio/api"
	"intaglio/bits"
	"intaglio/build"
	"intaglio/cause"
	"intaglio/tree"
)

// Fields of a schema.
func num() api.Field       { return api.Field{Kind: api.Num} }
func bytes() api.Field     { return api.Field{Kind: api.Bytes} }
func nums() api.Field      { return api.Field{Kind: api.Nums} }
func one(t int) api.Field  { return api.Field{Kind: api.One, Type: t} }
func many(t int) api.Field { return api.Field{Kind: api.Many, Type: t} }

// Trees: a number, a text, numbers, and what has Kids (a struct its fields, a field its structs).
func n(x uint64) api.Tree           { return api.Tree{Num: x} }
func text(s string) api.Tree        { return api.Tree{Bytes: s} }
func row(x ...uint64) api.Tree      { return api.Tree{Nums: x} }
func kids(all ...api.Tree) api.Tree { return api.Tree{Kids: all} }

// times is v, so often.
func times(count int, v api.Tree) []api.Tree { return slices.Repeat([]api.Tree{v}, count) }

// count is the numbers from first on, so many.
func count(first uint64, many int) api.Tree {
	all := make([]uint64, many)
	for i := range all {
		all[i] = first + uint64(i)
	}
	return row(all...)
}

// value is a schema, a type of it, and a right struct of that.
type value struct {
	s api.Schema
	t int
	v api.Tree
}

// broad is a schema with all kinds of fields; its types lead to one another, and to themselves.
func broad() api.Schema {
	return api.Schema{
		{num(), bytes(), nums(), one(1), many(2), one(0)},
		{many(0), num()},
		{bytes(), one(2)},
	}
}

// turned is a schema like that, whose fields of structs lie ahead of the others.
func turned() api.Schema {
	return api.Schema{
		{many(1), one(2), bytes()},
		{one(2), many(2), num()},
		{nums(), many(3), bytes(), num()},
		{one(3), bytes()},
	}
}

// grown is a struct of type t, at the most so many deep, with what the seed tells in it: now nothing, now as much as there may be, mostly a little.
func grown(s api.Schema, t, depth int, seed *uint64) api.Tree {
	draw := func(below int) int {
		*seed++
		return int(bits.Mix(*seed) % uint64(below))
	}
	amount := func(most int) int {
		return []int{0, 1, 2, most, draw(most + 1)}[draw(5)]
	}
	var fields []api.Tree
	for _, f := range s[t] {
		var field api.Tree
		switch f.Kind {
		case api.Num:
			field.Num = bits.Mix(*seed) >> draw(65)
		case api.Bytes:
			for range amount(40) {
				field.Bytes += string([]byte{byte(draw(256))})
			}
		case api.Nums:
			for range amount(12) {
				field.Nums = append(field.Nums, uint64(draw(3))*bits.Mix(*seed))
			}
		case api.One, api.Many:
			inner := draw(2)
			if f.Kind == api.Many {
				inner = min(amount(12), 2+draw(11))
			}
			for range inner {
				if depth > 1 {
					field.Kids = append(field.Kids, grown(s, f.Type, depth-1, seed))
				}
			}
		}
		fields = append(fields, field)
	}
	return kids(fields...)
}

// chain is a struct of {one(0)}, or of {many(0)}, so many deep.
func chain(depth int) api.Tree {
	v := kids(kids())
	for range depth - 1 {
		v = kids(kids(v))
	}
	return v
}

// byHand are right structs: of each kind with nothing in it, with one, with as much as it may have; and structs within structs.
func byHand() []value {
	leaf := kids(text(""), kids())
	two := kids(text("two"), kids(leaf))
	flat := kids(n(7), text("seven"), row(7, 77), kids(), kids(), kids())
	mixed := kids(n(0), text("\x00\xff"), row(0), kids(kids(kids(flat, flat), n(1))), kids(two, leaf, two), kids(flat))
	all := []value{
		{api.Schema{{num()}}, 0, kids(n(0))},
		{api.Schema{{num()}}, 0, kids(n(math.MaxUint64))},
		{api.Schema{{nums()}}, 0, kids(row())},
		{api.Schema{{nums()}}, 0, kids(row(0))},
		{api.Schema{{nums()}}, 0, kids(count(1, 12))},
		{api.Schema{{many(1)}, {num()}}, 0, kids(kids())},
		{api.Schema{{many(1)}, {num()}}, 0, kids(kids(kids(n(3))))},
		{api.Schema{{many(1)}, {num()}}, 0, kids(kids(times(12, kids(n(3)))...))},
		{api.Schema{{many(1)}, {num()}}, 1, kids(n(3))},
		{slices.Repeat(api.Schema{{nums(), nums(), nums(), nums(), nums(), nums()}}, 8), 7, kids(times(6, count(9, 12))...)},
		{broad(), 0, flat},
		{broad(), 0, mixed},
		{broad(), 0, kids(n(1), text("deep"), row(), kids(), kids(), kids(mixed))},
		{broad(), 1, kids(kids(flat, mixed), n(9))},
		{broad(), 2, two},
	}
	for depth := 1; depth <= 5; depth++ {
		all = append(all, value{api.Schema{{one(0)}}, 0, chain(depth)}, value{api.Schema{{many(0)}}, 0, chain(depth)})
	}
	for length := range 41 {
		all = append(all, value{api.Schema{{bytes()}}, 0, kids(text(strings.Repeat("é", 20)[:length]))})
		all = append(all, value{api.Schema{{bytes()}}, 0, kids(text(strings.Repeat("\x00", length)))})
	}
	return all
}

// rights are those, and many that were grown, of each type of some schemas.
func rights() []value {
	all := byHand()
	seed := uint64(0)
	for _, s := range []api.Schema{broad(), turned(), {{many(0), nums()}}, {{num(), one(0), many(0)}}} {
		for t := range s {
			for depth := 1; depth <= 5; depth++ {
				for range 100 {
					all = append(all, value{s, t, grown(s, t, depth, &seed)})
				}
			}
		}
	}
	return all
}

// copied is v, in memory of its own.
func copied(v api.Tree) api.Tree {
	v.Nums = slices.Clone(v.Nums)
	v.Kids = slices.Clone(v.Kids)
	for i := range v.Kids {
		v.Kids[i] = copied(v.Kids[i])
	}
	return v
}

// spelt is a tree as a text, in which nil and empty rows look alike: two trees are the same just if their texts are.
func spelt(v api.Tree) string {
	out := fmt.Sprintf("{%d %q %v", v.Num, v.Bytes, v.Nums)
	for _, inner := range v.Kids {
		out += spelt(inner)
	}
	return out + "}"
}

// piece is what lies together in a message: the words of structs of a type, and all that these refer to. As offsets are counted from the references themselves, it is the same wherever it lies.
func piece(s api.Schema, t int, structs []api.Tree) []uint64 {
	var own []uint64
	var behind [][]uint64
	var many []uint64
	for _, v := range structs {
		for i, f := range s[t] {
			field := v.Kids[i]
			word, refers, how := uint64(0), []uint64(nil), 0
			switch f.Kind {
			case 1:
				word = field.Num
			case 2:
				how = len(field.Bytes)
				refers = make([]uint64, (how+7)/8)
				for k, b := range []byte(field.Bytes) {
					refers[k/8] += uint64(b) << (8 * (k % 8))
				}
			case 3:
				how, refers = len(field.Nums), field.Nums
			case 4, 5:
				how, refers = len(field.Kids), piece(s, f.Type, field.Kids)
			}
			own = append(own, word)
			behind = append(behind, refers)
			many = append(many, uint64(how))
		}
	}
	out := slices.Clone(own)
	for i, refers := range behind {
		if many[i] > 0 {
			out[i] = many[i]*(1<<32) + uint64(len(out)-i)
		}
		out = append(out, refers...)
	}
	return out
}

// message is what Build must tell of a right struct, if it is not too long.
func message(c value) []uint64 {
	all := piece(c.s, c.t, []api.Tree{c.v})
	return append([]uint64{uint64(c.t)*(1<<32) + uint64(len(all)+1)}, all...)
}

// checkRight holds Build of a right struct against what the chapter says, and tells whether it was built.
func checkRight(t *testing.T, c value) bool {
	t.Helper()
	want, wantErr := message(c), error(nil)
	if size := tree.Size(c.s, c.t, c.v); size != len(want) {
		t.Fatalf("tree.Size(%v, %d, %v): %d, its message has %d", c.s, c.t, c.v, size, len(want))
	}
	if len(want) > 200 {
		want, wantErr = nil, cause.New(api.ErrSize)
	}
	before := copied(c.v)
	got, err := build.Build(c.s, c.t, c.v)
	if !slices.Equal(got, want) || err != wantErr {
		t.Fatalf("Build(%v, %d, %v): %x, %v, want %x, %v", c.s, c.t, c.v, got, err, want, wantErr)
	}
	if spelt(before) != spelt(c.v) {
		t.Fatalf("Build changed %v to %v", before, c.v)
	}
	return err == nil
}

// P7.1: built.

func TestBuild(t *testing.T) {
	built, long := 0, 0
	for _, c := range rights() {
		if err := tree.Check(c.s, c.t, c.v); err != nil {
			t.Fatalf("%v is no right struct: %v", c.v, err)
		}
		if checkRight(t, c) {
			built++
		} else {
			long++
		}
	}
	if built < 3000 || long < 100 {
		t.Errorf("%d were built, %d were too long: too few to tell", built, long)
	}
}

func TestExample(t *testing.T) {
	s, v := api.Schema{{num(), nums()}}, kids(n(7), row(5, 6))
	got, err := build.Build(s, 0, v)
	if !slices.Equal(got, []uint64{5, 7, 0x200000001, 5, 6}) || err != nil {
		t.Errorf("Build: %x, %v", got, err)
	}
}

func TestBuildByHand(t *testing.T) {
	for _, c := range []struct {
		what string
		c    value
		want []uint64
	}{
		{"a number", value{api.Schema{{num()}}, 0, kids(n(9))}, []uint64{2, 9}},
		{"the greatest number, of type 7", value{slices.Repeat(api.Schema{{num()}}, 8), 7, kids(n(math.MaxUint64))},
			[]uint64{0x700000002, math.MaxUint64}},
		{"no bytes", value{api.Schema{{bytes()}}, 0, kids(text(""))}, []uint64{2, 0}},
		{"a byte 0", value{api.Schema{{bytes()}}, 0, kids(text("\x00"))}, []uint64{3, 0x100000001, 0}},
		{"eight bytes", value{api.Schema{{bytes()}}, 0, kids(text("abcdefgh"))}, []uint64{3, 0x800000001, 0x6867666564636261}},
		{"nine bytes", value{api.Schema{{bytes()}}, 0, kids(text("abcdefghi"))}, []uint64{4, 0x900000001, 0x6867666564636261, 0x69}},
		{"40 bytes", value{api.Schema{{bytes()}}, 0, kids(text(strings.Repeat("\xff", 40)))},
			append([]uint64{7, 0x2800000001}, slices.Repeat([]uint64{math.MaxUint64}, 5)...)},
		{"no numbers", value{api.Schema{{nums()}}, 0, kids(row())}, []uint64{2, 0}},
		{"a number 0", value{api.Schema{{nums()}}, 0, kids(row(0))}, []uint64{3, 0x100000001, 0}},
		{"12 numbers", value{api.Schema{{nums()}}, 0, kids(count(1, 12))},
			[]uint64{14, 0xc00000001, 1, 2, 3, 4, 5, 6, 7, 8, 9, 10, 11, 12}},
		{"no struct", value{api.Schema{{one(0)}}, 0, kids(kids())}, []uint64{2, 0}},
		{"a struct", value{api.Schema{{one(1)}, {num()}}, 0, kids(kids(kids(n(4))))}, []uint64{3, 0x100000001, 4}},
		{"five structs within one another", value{api.Schema{{one(0)}}, 0, chain(5)},
			[]uint64{6, 0x100000001, 0x100000001, 0x100000001, 0x100000001, 0}},
		{"no structs", value{api.Schema{{many(0)}}, 0, kids(kids())}, []uint64{2, 0}},
		{"12 structs", value{api.Schema{{many(1)}, {num()}}, 0, kids(kids(times(12, kids(n(3)))...))},
			append([]uint64{14, 0xc00000001}, slices.Repeat([]uint64{3}, 12)...)},
		{"nothing at all in any field", value{broad(), 0, kids(n(0), text(""), row(), kids(), kids(), kids())},
			[]uint64{7, 0, 0, 0, 0, 0, 0}},
		{"fields' order", value{api.Schema{{nums(), num(), bytes(), nums()}}, 0, kids(row(1), n(2), text("c"), row(4, 5))},
			[]uint64{9, 0x100000004, 2, 0x100000003, 0x200000003, 1, 'c', 4, 5}},
		{"what a struct refers to lies ahead of the next field's", value{api.Schema{{one(1), nums()}, {nums()}}, 0, kids(kids(kids(row(1, 2))), row(3))},
			[]uint64{7, 0x100000002, 0x100000004, 0x200000001, 1, 2, 3}},
		{"structs' words lie together, then what each refers to", value{api.Schema{{many(1), nums()}, {nums(), bytes()}}, 0,
			kids(kids(kids(row(1), text("a")), kids(row(), text("b")), kids(row(2, 3), text(""))), row(4))},
			[]uint64{15, 0x300000002, 0x10000000c,
				0x100000006, 0x100000006, 0, 0x100000005, 0x200000005, 0,
				1, 'a', 'b', 2, 3, 4}},
		{"structs within structs, wholly, ahead of the next one", value{api.Schema{{many(1)}, {many(2), nums()}, {nums()}}, 0,
			kids(kids(kids(kids(kids(row(1)), kids(row(2))), row(3)), kids(kids(kids(row(4))), row(5))))},
			[]uint64{14, 0x200000001,
				0x200000004, 0x100000007, 0x100000007, 0x100000008,
				0x100000002, 0x100000002, 1, 2, 3,
				0x100000001, 4, 5}},
	} {
		got, err := build.Build(c.c.s, c.c.t, c.c.v)
		if !slices.Equal(got, c.want) || err != nil {
			t.Errorf("%s: %x, %v, want %x", c.what, got, err, c.want)
		}
		checkRight(t, c.c)
	}
}
