package build_test

import (
	"fmt"
	"math"
	"slices"
	"strings"
	"testing"

	"intaglio/api"
	"intaglio/bits"
	"intaglio/build"
	"intaglio/cause"
	"intaglio/tree"
)

// P7.1: which trouble is told.

// wrongSchemas are schemas that are not right.
func wrongSchemas() []api.Schema {
	return []api.Schema{nil, {}, {nil}, {{num()}, {}}, {{{Kind: 0}}}, {{{Kind: 6}}}, {{{Kind: -1}}},
		{{{Kind: api.Num, Type: 1}}, {num()}}, {{one(1)}}, {{many(-1)}}, {slices.Repeat([]api.Field{num()}, 7)},
		slices.Repeat(api.Schema{{num()}}, 9)}
}

// nodes are all trees within v, v itself first, so that each can be changed where it is.
func nodes(v *api.Tree) []*api.Tree {
	all := []*api.Tree{v}
	for i := range v.Kids {
		all = append(all, nodes(&v.Kids[i])...)
	}
	return all
}

// bends are the ways in which a tree is changed in one place; each leaves it as it is, or makes it another one, a right or a wrong one.
func bends() []func(v *api.Tree) {
	return []func(v *api.Tree){
		func(v *api.Tree) { v.Num++ },
		func(v *api.Tree) { v.Num += 1 << 63 },
		func(v *api.Tree) { v.Num = 0 },
		func(v *api.Tree) { v.Bytes += "\x00" },
		func(v *api.Tree) { v.Bytes = "" },
		func(v *api.Tree) { v.Bytes = strings.Repeat("b", 40) },
		func(v *api.Tree) { v.Bytes = strings.Repeat("b", 41) },
		func(v *api.Tree) { v.Nums = append(slices.Clip(v.Nums), 0) },
		func(v *api.Tree) { v.Nums = []uint64{} },
		func(v *api.Tree) { v.Nums = make([]uint64, 12) },
		func(v *api.Tree) { v.Nums = make([]uint64, 13) },
		func(v *api.Tree) { v.Kids = []api.Tree{} },
		func(v *api.Tree) { v.Kids = v.Kids[:max(0, len(v.Kids)-1)] },
		func(v *api.Tree) { v.Kids = append(slices.Clip(v.Kids), v.Kids...) },
		func(v *api.Tree) { v.Kids = times(13, kids(n(1))) },
		func(v *api.Tree) { v.Kids = []api.Tree{chain(6)} },
		func(v *api.Tree) { slices.Reverse(v.Kids) },
	}
}

// bent are the tree, changed in each place in each way.
func bent(v api.Tree) []api.Tree {
	all := []api.Tree{v}
	for i := range nodes(&v) {
		for _, bend := range bends() {
			out := copied(v)
			bend(nodes(&out)[i])
			all = append(all, out)
		}
	}
	return all
}

func checkWrong(t *testing.T, c value, want error) {
	t.Helper()
	before := copied(c.v)
	got, err := build.Build(c.s, c.t, c.v)
	if len(got) > 0 || err != want {
		t.Fatalf("Build(%v, %d, %v): %x, %v, want %v", c.s, c.t, c.v, got, err, want)
	}
	if spelt(before) != spelt(c.v) {
		t.Fatalf("Build changed %v to %v", before, c.v)
	}
}

// Structs that were bent, held against types that are not theirs, too.
func TestBuildOfBentOnes(t *testing.T) {
	told := map[api.Errno]int{}
	for _, c := range byHand() {
		for _, v := range bent(c.v) {
			for other := range c.s {
				b := value{c.s, other, v}
				if want := tree.Check(c.s, other, v); want != nil {
					checkWrong(t, b, want)
					told[cause.Top(want)]++
				} else {
					checkRight(t, b)
					told[api.OK]++
				}
			}
		}
	}
	for code, least := range map[api.Errno]int{api.OK: 500, api.ErrKind: 500, api.ErrOver: 20} {
		if told[code] < least {
			t.Errorf("%v was told %d times: too few to tell", code, told[code])
		}
	}
}

func TestBuildOfWrongArguments(t *testing.T) {
	arg := cause.New(api.ErrArg)
	trees := []api.Tree{{}, n(1), kids(n(1)), kids(n(1), n(2)), long(300).v}
	for _, v := range trees {
		for _, s := range wrongSchemas() {
			for _, ty := range []int{-1, 0, 1, 8} {
				checkWrong(t, value{s, ty, v}, arg)
			}
		}
		for _, ty := range []int{-1, 2, 3, 8, math.MinInt, math.MaxInt, 1 << 32, -1 << 32} {
			checkWrong(t, value{api.Schema{{num()}, {num()}}, ty, v}, arg)
		}
	}
}

func TestBuildOfWrongOnesByHand(t *testing.T) {
	kind, over, size := cause.New(api.ErrKind), cause.New(api.ErrOver), cause.New(api.ErrSize)
	self := kids(kids(api.Tree{}))
	self.Kids[0].Kids[0] = self
	s := api.Schema{{one(0)}}
	for _, c := range []struct {
		what string
		c    value
		want error
	}{
		{"nothing", value{s, 0, api.Tree{}}, kind},
		{"a number", value{s, 0, n(1)}, kind},
		{"a field too many", value{s, 0, kids(kids(), kids())}, kind},
		{"two of One", value{s, 0, kids(kids(chain(1), chain(1)))}, kind},
		{"13 of Many", value{api.Schema{{many(1)}, {num()}}, 0, kids(kids(times(13, kids(n(1)))...))}, kind},
		{"13 numbers", value{api.Schema{{nums()}}, 0, kids(count(1, 13))}, kind},
		{"41 bytes", value{api.Schema{{bytes()}}, 0, kids(text(strings.Repeat("x", 41)))}, kind},
		{"a number that has numbers", value{api.Schema{{num()}}, 0, kids(row(1))}, kind},
		{"bytes that have a number", value{api.Schema{{bytes()}}, 0, kids(api.Tree{Num: 1, Bytes: "x"})}, kind},
		{"six deep", value{s, 0, chain(6)}, over},
		{"within itself", value{s, 0, self}, over},
		{"many, and many in each", value{api.Schema{{many(1)}, {many(2)}, {num(), num()}}, 0,
			kids(kids(times(12, kids(kids(times(12, kids(n(1), n(2)))...)))...))}, size},
		{"long, and of no kind", value{long(300).s, 0, kids(long(300).v.Kids[0], n(1))}, kind},
		{"long, and too deep", value{api.Schema{{many(1), one(0)}, {nums(), nums()}}, 0,
			kids(long(300).v.Kids[0], kids(kids(kids(), kids(kids(kids(), kids(kids(kids(), kids(kids(kids(), kids(kids(kids(), kids())))))))))))}, over},
	} {
		if _, err := build.Build(c.c.s, c.c.t, c.c.v); err != c.want || c.want == nil {
			t.Errorf("%s: %v, want %v", c.what, err, c.want)
		}
	}
}

// long is a struct whose message has so many words, 27 to 315: as many numbers as that needs, put into 24 rows.
func long(size int) value {
	rest := size - 27
	var inner []api.Tree
	for range 12 {
		first, second := min(rest, 12), min(max(rest-12, 0), 12)
		inner = append(inner, kids(count(uint64(rest), first), count(0, second)))
		rest -= first + second
	}
	return value{api.Schema{{many(1), bytes()}, {nums(), nums()}}, 0, kids(kids(inner...), text(""))}
}

// wide is a struct whose message has so many words, 4 to 303: no more than the structs' own, and a number.
func wide(size int) value {
	pair := kids(n(1), n(2))
	rest := size - 4
	var inner []api.Tree
	for range 12 {
		if rest == 0 {
			break
		}
		rest--
		pairs := min(rest/2, 12)
		inner = append(inner, kids(kids(times(pairs, pair)...)))
		rest -= 2 * pairs
	}
	var more []uint64
	for range rest {
		more = append(more, uint64(rest))
	}
	return value{api.Schema{{many(1), num(), nums()}, {many(2)}, {num(), num()}}, 0, kids(kids(inner...), n(9), row(more...))}
}

// Each message's length is told from the one side of the limit to the other.
func TestBuildOfAllLengths(t *testing.T) {
	for size := 27; size <= 290; size++ {
		for _, c := range []value{long(size), wide(size)} {
			if got := tree.Size(c.s, c.t, c.v); got != size {
				t.Fatalf("%v has %d words, want %d", c.v, got, size)
			}
			if built := checkRight(t, c); built != (size <= 200) {
				t.Errorf("a message of %d words: built %v", size, built)
			}
		}
	}
}

// As great a struct as there is: nothing of it is laid.
func TestBuildOfTheGreatest(t *testing.T) {
	s := api.Schema{{many(0), many(0), bytes()}}
	v := kids(kids(), kids(), text(strings.Repeat("x", 40)))
	for range 3 {
		v = kids(kids(times(12, v)...), kids(times(12, v)...), text(""))
	}
	got, err := build.Build(s, 0, v)
	if len(got) > 0 || err != cause.New(api.ErrSize) {
		t.Errorf("Build: %d words, %v, want ErrSize", len(got), err)
	}
}

// P7.2: references.

// numbers are those whose lowest 32 bits, or whose others, are at an edge.
func numbers() []int {
	all := []int{math.MinInt, math.MaxInt, 0x123456789abcdef}
	for _, edge := range []int{0, 1 << 8, 1 << 16, 1 << 31, 1 << 32, 1 << 33, 1 << 40, 1 << 62} {
		for near := -2; near <= 2; near++ {
			all = append(all, edge+near, -edge+near)
		}
	}
	for i := range 63 {
		all = append(all, 1<<i)
	}
	for i := range uint64(100) {
		all = append(all, int(bits.Mix(i)), int(bits.Mix(i)>>(i%64)))
	}
	return all
}

// lowest is x's lowest 32 bits, bit by bit.
func lowest(x int) uint64 {
	sum := uint64(0)
	for i := range 32 {
		if x>>i&1 == 1 {
			sum += 1 << i
		}
	}
	return sum
}

func TestRef(t *testing.T) {
	for _, offset := range numbers() {
		for _, n := range numbers() {
			w := build.Ref(offset, n)
			if want := lowest(n)*(1<<32) + lowest(offset); w != want {
				t.Fatalf("Ref(%d, %d): %x, want %x", offset, n, w, want)
			}
			gotOffset, gotN := build.Part(w)
			if uint64(gotOffset) != lowest(offset) || uint64(gotN) != lowest(n) {
				t.Fatalf("Part(%x): %d, %d, want %d, %d", w, gotOffset, gotN, lowest(offset), lowest(n))
			}
		}
	}
}

// Any word is the reference of its two numbers.
func TestPart(t *testing.T) {
	for _, high := range numbers() {
		for _, low := range numbers() {
			w := uint64(high)<<32 ^ uint64(low)
			offset, n := build.Part(w)
			if uint64(offset) != w%(1<<32) || uint64(n) != w/(1<<32) {
				t.Fatalf("Part(%x): %d, %d", w, offset, n)
			}
			if build.Ref(offset, n) != w {
				t.Fatalf("Ref(%d, %d): %x, want %x", offset, n, build.Ref(offset, n), w)
			}
		}
	}
}

func TestReferencesByHand(t *testing.T) {
	for _, c := range []struct {
		offset, n int
		want      uint64
	}{
		{0, 0, 0},
		{1, 2, 0x200000001},
		{9, 7, 0x700000009},
		{-1, 0, 0xffffffff},
		{0, -1, 0xffffffff00000000},
		{-1, -1, math.MaxUint64},
		{1 << 32, 0, 0},
		{0, 1 << 32, 0},
		{1<<32 + 5, -1<<32 + 6, 0x600000005},
		{math.MinInt, math.MinInt, 0},
		{math.MaxInt, 1, 0x1ffffffff},
		{1 << 31, 1 << 31, 0x8000000080000000},
	} {
		if got := build.Ref(c.offset, c.n); got != c.want {
			t.Errorf("Ref(%d, %d): %x, want %x", c.offset, c.n, got, c.want)
		}
	}
	for _, c := range []struct {
		w         uint64
		offset, n int
	}{
		{0, 0, 0},
		{0x700000009, 9, 7},
		{math.MaxUint64, 1<<32 - 1, 1<<32 - 1},
		{1 << 63, 0, 1 << 31},
		{1 << 31, 1 << 31, 0},
		{1 << 32, 0, 1},
	} {
		if offset, n := build.Part(c.w); offset != c.offset || n != c.n {
			t.Errorf("Part(%x): %d, %d, want %d, %d", c.w, offset, n, c.offset, c.n)
		}
	}
}

// P7.3: what follows.

func TestMessageHasSizeWords(t *testing.T) {
	for _, c := range rights() {
		if got, err := build.Build(c.s, c.t, c.v); err == nil && len(got) != tree.Size(c.s, c.t, c.v) {
			t.Fatalf("Build(%v, %d, %v): %d words, tree.Size is %d", c.s, c.t, c.v, len(got), tree.Size(c.s, c.t, c.v))
		}
	}
}

// small are all structs of a type with little in them: of each field some that differ by as little as may be.
func small(s api.Schema, t, depth int) []api.Tree {
	all := []api.Tree{{}}
	for _, f := range s[t] {
		var fields []api.Tree
		switch f.Kind {
		case api.Num:
			fields = []api.Tree{n(0), n(1), n(0x100000001)}
		case api.Bytes:
			fields = []api.Tree{text(""), text("\x00"), text("\x00\x00"), text("\x01")}
		case api.Nums:
			fields = []api.Tree{row(), row(0), row(0, 0), row(1)}
		case api.One, api.Many:
			fields = []api.Tree{kids()}
			if depth == 1 {
				break
			}
			inner := small(s, f.Type, depth-1)
			for _, v := range inner {
				fields = append(fields, kids(v))
				for _, w := range inner {
					if f.Kind == api.Many && len(inner) < 20 {
						fields = append(fields, kids(v, w))
					}
				}
			}
		}
		var longer []api.Tree
		for _, v := range all {
			for _, field := range fields {
				longer = append(longer, kids(append(slices.Clip(v.Kids), field)...))
			}
		}
		all = longer
	}
	return all
}

// Two structs of a type have the same message just if they are the same: of each message one struct is kept.
func TestMessagesDiffer(t *testing.T) {
	for _, s := range []api.Schema{
		{{num(), bytes(), nums()}},
		{{nums(), nums(), bytes(), bytes()}},
		{{many(1), nums()}, {nums()}},
		{{many(1), one(1), num()}, {num(), one(2)}, {bytes()}},
		{{one(0), many(0)}},
		{{many(0)}},
	} {
		structs := small(s, 0, 3)
		if len(structs) < 10 {
			t.Errorf("%v: %d structs: too few to tell", s, len(structs))
		}
		whose := map[string]string{}
		for _, v := range structs {
			got, err := build.Build(s, 0, v)
			if err != nil {
				t.Fatalf("Build(%v, 0, %v): %v", s, v, err)
			}
			words := fmt.Sprint(got)
			if other, is := whose[words]; is && other != spelt(v) {
				t.Fatalf("%s and %s have the same message %s", other, spelt(v), words)
			}
			whose[words] = spelt(v)
			again, _ := build.Build(s, 0, copied(v))
			if !slices.Equal(got, again) {
				t.Fatalf("%v has two messages: %x, %x", v, got, again)
			}
		}
	}
}

// Bent ones, and those they were bent from; trees of nil and of empty rows are the same.
func TestMessagesOfBentOnesDiffer(t *testing.T) {
	differ, same := 0, 0
	for _, c := range byHand() {
		first, err := build.Build(c.s, c.t, c.v)
		if err != nil {
			t.Fatalf("Build(%v, %d, %v): %v", c.s, c.t, c.v, err)
		}
		for _, v := range bent(c.v) {
			got, err := build.Build(c.s, c.t, v)
			if err != nil {
				continue
			}
			is := tree.Same(c.v, v)
			if slices.Equal(first, got) != is {
				t.Fatalf("%v and %v: messages %x and %x", c.v, v, first, got)
			}
			if is {
				same++
			} else {
				differ++
			}
		}
	}
	if differ < 300 || same < 300 {
		t.Errorf("%d differ, %d are the same: too few to tell", differ, same)
	}
}

// R3: a message is the caller's.
func TestMessageIsTheCallers(t *testing.T) {
	for _, c := range byHand() {
		first, _ := build.Build(c.s, c.t, c.v)
		second, _ := build.Build(c.s, c.t, c.v)
		before, kept := slices.Clone(second), spelt(c.v)
		first = append(first, 1)
		for i := range first {
			first[i] = ^first[i]
		}
		if !slices.Equal(second, before) || spelt(c.v) != kept {
			t.Fatalf("Build(%v, %d, %v): its message is shared", c.s, c.t, c.v)
		}
	}
}
