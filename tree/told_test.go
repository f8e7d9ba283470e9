package tree_test

import (
	"slices"
	"strings"
	"testing"

	"intaglio/api"
	"intaglio/bits"
	"intaglio/tree"
)

// P6.2: told. Same.

func checkSame(t *testing.T, a, b api.Tree) {
	t.Helper()
	want := equal(a, b)
	if tree.Same(a, b) != want || tree.Same(b, a) != want {
		t.Fatalf("Same(%v, %v): %v, other way round %v, want %v", a, b, tree.Same(a, b), tree.Same(b, a), want)
	}
}

func TestSame(t *testing.T) {
	differ := 0
	for _, c := range rights() {
		if !tree.Same(c.v, copied(c.v)) {
			t.Errorf("%v is not the same as itself", c.v)
		}
		for _, v := range bent(c.v) {
			before := copied(v)
			checkSame(t, c.v, v)
			if !equal(v, before) {
				t.Fatalf("Same changed %v to %v", before, v)
			}
			if !equal(c.v, v) {
				differ++
			}
		}
	}
	if differ < 1000 {
		t.Errorf("%d of the trees differ: too few to tell", differ)
	}
}

func TestSameByHand(t *testing.T) {
	full := api.Tree{Num: 1, Bytes: "ab", Nums: []uint64{1, 2}, Kids: []api.Tree{n(1), kids(n(2))}}
	for _, c := range []struct {
		what string
		a, b api.Tree
		want bool
	}{
		{"nothing", api.Tree{}, api.Tree{}, true},
		{"nil and empty rows", api.Tree{}, api.Tree{Nums: []uint64{}, Kids: []api.Tree{}}, true},
		{"nil and empty rows inside", kids(api.Tree{}), kids(api.Tree{Nums: []uint64{}, Kids: []api.Tree{}}), true},
		{"full", full, copied(full), true},
		{"a number", n(0), n(1), false},
		{"the highest bit", n(1), n(1 + 1<<63), false},
		{"a byte", text("ab"), text("aB"), false},
		{"a text and one that goes on", text("ab"), text("ab\x00"), false},
		{"nothing and a byte 0", text(""), text("\x00"), false},
		{"one of the numbers", row(1, 2), row(1, 3), false},
		{"numbers that go on", row(1), row(1, 0), false},
		{"the numbers' order", row(1, 2), row(2, 1), false},
		{"a number, and numbers", n(1), row(1), false},
		{"numbers, and Kids", row(1), kids(n(1)), false},
		{"no Kid, and an empty one", kids(), kids(api.Tree{}), false},
		{"the Kids' order", kids(n(1), n(2)), kids(n(2), n(1)), false},
		{"the last Kid's last Kid", kids(n(1), kids(n(1), n(2))), kids(n(1), kids(n(1), n(3))), false},
		{"where Kids lie", kids(kids(n(1)), kids()), kids(kids(), kids(n(1))), false},
	} {
		if got := tree.Same(c.a, c.b); got != c.want {
			t.Errorf("%s: %v, want %v", c.what, got, c.want)
		}
		checkSame(t, c.a, c.b)
	}
}

// Deep.

// deep is how deep any tree is, counted from the outside inwards: are there structs within so many others?
func deep(v api.Tree) int {
	depth := 0
	for level := []api.Tree{v}; len(level) > 0; depth++ {
		var inner []api.Tree
		for _, outer := range level {
			for _, field := range outer.Kids {
				inner = append(inner, field.Kids...)
			}
		}
		level = inner
	}
	return depth
}

func TestDeep(t *testing.T) {
	seen := map[int]int{}
	for _, c := range rights() {
		for _, v := range bent(c.v) {
			before := copied(v)
			got, want := tree.Deep(v), deep(v)
			if got != want {
				t.Fatalf("Deep(%v): %d, want %d", v, got, want)
			}
			if !equal(v, before) {
				t.Fatalf("Deep changed %v to %v", before, v)
			}
			seen[want]++
		}
	}
	for depth := 1; depth <= 10; depth++ {
		if seen[depth] == 0 {
			t.Errorf("no tree was %d deep", depth)
		}
	}
}

func TestDeepByHand(t *testing.T) {
	for _, c := range []struct {
		what string
		v    api.Tree
		want int
	}{
		{"nothing", api.Tree{}, 1},
		{"a number", n(7), 1},
		{"all but Kids", api.Tree{Num: 1, Bytes: "x", Nums: []uint64{1}}, 1},
		{"fields alone", kids(n(1), kids(), text("x")), 1},
		{"an empty tree within a field", kids(kids(api.Tree{})), 2},
		{"Kids three within one another", kids(kids(kids(n(1)))), 2},
		{"four", kids(kids(kids(kids(n(1))))), 3},
		{"the first field is the deepest", kids(kids(kids(kids(n(1)))), kids(n(1)), n(1)), 3},
		{"the last field's last struct is", kids(n(1), kids(n(1)), kids(n(1), kids(kids(n(1))))), 3},
		{"six", nest(6, 21), 6},
		{"seventy", nest(70, 21), 70},
		{"a field that has too much", kids(api.Tree{Num: 1, Nums: []uint64{2}, Kids: []api.Tree{n(1)}}), 2},
	} {
		if got := tree.Deep(c.v); got != c.want || deep(c.v) != c.want {
			t.Errorf("%s: %d, want %d", c.what, got, c.want)
		}
	}
}

// long are trees within one another, so many, the innermost one with that number.
func long(levels int, innermost uint64) api.Tree {
	v := n(innermost)
	for range levels {
		v = kids(v)
	}
	return v
}

// As many levels of nesting as the document allows, and some more.
func TestOfLongOnes(t *testing.T) {
	for _, levels := range []int{1 << 16, 1<<16 + 1, 1 << 17} {
		if got, want := tree.Deep(long(levels, 0)), levels/2+1; got != want {
			t.Errorf("%d levels are %d deep, want %d", levels, got, want)
		}
		if !tree.Same(long(levels, 1), long(levels, 1)) {
			t.Errorf("%d levels are not the same as they are", levels)
		}
		if tree.Same(long(levels, 1), long(levels, 2)) || tree.Same(long(levels, 1), long(levels-1, 1)) {
			t.Errorf("%d levels are the same as others", levels)
		}
	}
}

// Trees that are wide are not taken for long ones.
func TestOfWideOnes(t *testing.T) {
	wide := func(last uint64) api.Tree { return kids(append(times(1<<19, kids(n(1))), kids(n(last)))...) }
	if got := tree.Deep(wide(1)); got != 2 {
		t.Errorf("a wide tree is %d deep, want 2", got)
	}
	if !tree.Same(wide(1), wide(1)) || tree.Same(wide(1), wide(2)) {
		t.Errorf("wide trees: the same %v, others %v", tree.Same(wide(1), wide(1)), tree.Same(wide(1), wide(2)))
	}
}

// Nothing is promised of a tree that has itself among its Kids, but that the calls end.
func TestEndlessOnesEnd(t *testing.T) {
	for _, width := range []int{1, 2, 12} {
		self := api.Tree{Kids: make([]api.Tree, width)}
		for i := range self.Kids {
			self.Kids[i] = self
		}
		if got := tree.Deep(self); got < 1<<16 {
			t.Errorf("a tree within itself is %d deep", got)
		}
		tree.Same(self, self)
		if tree.Same(self, kids(self)) && width > 1 {
			t.Errorf("%d Kids are the same as one", width)
		}
		if tree.Same(self, api.Tree{}) || tree.Same(api.Tree{}, self) {
			t.Error("a tree within itself is the same as nothing")
		}
	}
}

// Size.

// size is how many words a right struct's message has: all that is put into words lies in one row, text by text.
func size(s api.Schema, t int, v api.Tree) int {
	words := []uint64{0}
	type struc struct {
		t int
		v api.Tree
	}
	for rest := []struc{{t, v}}; len(rest) > 0; rest = rest[1:] {
		for i, f := range s[rest[0].t] {
			field := rest[0].v.Kids[i]
			words = append(words, 0)
			switch f.Kind {
			case 2:
				words = append(words, bits.Words(field.Bytes)...)
			case 3:
				words = append(words, field.Nums...)
			case 4, 5:
				for _, inner := range field.Kids {
					rest = append(rest, struc{f.Type, inner})
				}
			}
		}
	}
	return len(words)
}

func TestSize(t *testing.T) {
	right, wrong := 0, 0
	for _, c := range rights() {
		for _, v := range bent(c.v) {
			for other := range c.s {
				want := 0
				if firstTrouble(c.s, other, v) == nil {
					want = size(c.s, other, v)
					right++
				} else {
					wrong++
				}
				before := copied(v)
				if got := tree.Size(c.s, other, v); got != want {
					t.Fatalf("Size(%v, %d, %v): %d, want %d", c.s, other, v, got, want)
				}
				if !equal(v, before) {
					t.Fatalf("Size changed %v to %v", before, v)
				}
			}
		}
	}
	if right < 500 || wrong < 500 {
		t.Errorf("%d right ones, %d wrong ones: too few to tell", right, wrong)
	}
}

func TestSizeByHand(t *testing.T) {
	texts := func(length int) api.Tree { return kids(text(strings.Repeat("x", length))) }
	twelve := api.Tree{Nums: make([]uint64, 12)}
	six := kids(times(6, twelve)...)
	wide := api.Schema{{many(1)}, slices.Repeat([]api.Field{nums()}, 6)}
	for _, c := range []struct {
		what string
		s    api.Schema
		v    api.Tree
		want int
	}{
		{"a number", api.Schema{{num()}}, kids(n(0)), 2},
		{"the example", api.Schema{{num(), nums()}}, kids(n(7), row(5, 6)), 5},
		{"no bytes", api.Schema{{bytes()}}, texts(0), 2},
		{"one byte", api.Schema{{bytes()}}, texts(1), 3},
		{"eight bytes", api.Schema{{bytes()}}, texts(8), 3},
		{"nine bytes", api.Schema{{bytes()}}, texts(9), 4},
		{"40 bytes", api.Schema{{bytes()}}, texts(40), 7},
		{"41 bytes", api.Schema{{bytes()}}, texts(41), 0},
		{"no numbers", api.Schema{{nums()}}, kids(row()), 2},
		{"12 numbers", api.Schema{{nums()}}, kids(twelve), 14},
		{"no struct", nestSchema(), nest(1, 0), 4},
		{"one in One", nestSchema(), nest(2, 0), 7},
		{"one in Many", nestSchema(), nest(2, 1), 7},
		{"five deep", nestSchema(), nest(5, 6), 16},
		{"six deep", nestSchema(), nest(6, 6), 0},
		{"more than a message may have", wide, kids(kids(times(12, six)...)), 2 + 12*78},
		{"no struct of the type", nestSchema(), kids(n(1)), 0},
		{"nothing", nestSchema(), api.Tree{}, 0},
	} {
		if got := tree.Size(c.s, 0, c.v); got != c.want {
			t.Errorf("%s: %d, want %d", c.what, got, c.want)
		}
	}
	for _, s := range wrongSchemas() {
		if got := tree.Size(s, 0, kids(n(1))); got != 0 {
			t.Errorf("Size(%v, ..): %d, want 0", s, got)
		}
	}
	for _, ty := range []int{-1, 1, 8} {
		if got := tree.Size(nestSchema(), ty, nest(1, 0)); got != 0 {
			t.Errorf("Size of type %d: %d, want 0", ty, got)
		}
	}
}
