package plan_test

import (
	"math"
	"testing"

	"intaglio/api"
	"intaglio/plan"
)

// thing is what lies in a word: its kind, its number, and, of buffers, which one.
type thing struct {
	kind     string
	i, which int
}

// spelled are the words of a right config's arena, as the chapter tells them in order. Words behind the first one of a buffer, or of a block, are "more".
func spelled(c api.Config) []thing {
	words := []thing{{"magic", 0, 0}, {"config", 0, 0}, {"seq", 0, 0}, {"head", 0, 0}, {"head", 1, 0}}
	more := func(n int) {
		for range n {
			words = append(words, thing{kind: "more"})
		}
	}
	for i := range c.Slots {
		words = append(words, thing{"slot", i, 0})
	}
	for i := range c.Topics {
		words = append(words, thing{"entry", i, 0})
	}
	for i := range c.Topics {
		words = append(words, thing{"control", i, 0})
		for which := range 2 {
			words = append(words, thing{"buffer", i, which})
			more(c.Small - 1)
		}
	}
	b := 0
	for _, class := range c.Classes {
		for range class.Count {
			b++
			words = append(words, thing{"block", b, 0})
			more(class.Size)
		}
	}
	return words
}

// spots are the words of all things, by what they are.
func spots(c api.Config) map[thing]int {
	out := map[thing]int{}
	for i, w := range spelled(c) {
		if w.kind != "more" {
			out[w] = i
		}
	}
	return out
}

// numbers are what places are asked of: all that there are, their edges, and far ones.
func numbers() []int {
	all := []int{math.MinInt, math.MinInt + 1, -1 << 32, 1 << 31, 1 << 32, 1<<32 + 1, math.MaxInt - 1, math.MaxInt}
	for n := -30; n <= 30; n++ {
		all = append(all, n)
	}
	return all
}

// P4.2: places.

func TestSeqAndHead(t *testing.T) {
	if got := plan.Seq(); got != 2 {
		t.Errorf("Seq: %d, want 2", got)
	}
	for _, n := range numbers() {
		want := -1
		if n == 0 || n == 1 {
			want = 3 + n
		}
		if got := plan.Head(n); got != want {
			t.Errorf("Head(%d): %d, want %d", n, got, want)
		}
	}
}

// checkPlaces holds all places of a config against those that are to be, of what there is and of what there is not.
func checkPlaces(t *testing.T, c api.Config, want map[thing]int) {
	t.Helper()
	check := func(got int, what thing) {
		t.Helper()
		at, there := want[what]
		if !there {
			at = -1
		}
		if got != at {
			t.Errorf("%+v: %+v lies at %d, want %d", c, what, got, at)
		}
	}
	for _, n := range numbers() {
		check(plan.Slot(c, n), thing{"slot", n, 0})
		check(plan.Entry(c, n), thing{"entry", n, 0})
		check(plan.Control(c, n), thing{"control", n, 0})
		check(plan.Block(c, n), thing{"block", n, 0})
		for _, which := range []int{0, 1, -1, 2, 3, math.MinInt, math.MaxInt, 1 << 32, 1<<32 + 1} {
			check(plan.Buffer(c, n, which), thing{"buffer", n, which})
		}
	}
}

func TestPlaces(t *testing.T) {
	for _, r := range bent() {
		if r.isRight() {
			c := r.config()
			checkPlaces(t, c, spots(c))
		}
	}
}

func TestPlacesOfAWrongConfig(t *testing.T) {
	for _, r := range wrong() {
		checkPlaces(t, r.config(), nil)
	}
}

// Places, one by one, counted by hand.
func TestPlacesByHand(t *testing.T) {
	c := row{2, 4, 3, 2, 5, 6, 2, 10, 1}.config()
	for _, p := range []struct {
		name      string
		got, want int
	}{
		{"Slot 0", plan.Slot(c, 0), 5}, {"Slot 2", plan.Slot(c, 2), 7}, {"Slot 3", plan.Slot(c, 3), -1},
		{"Entry 0", plan.Entry(c, 0), 8}, {"Entry 1", plan.Entry(c, 1), 9}, {"Entry 2", plan.Entry(c, 2), -1},
		{"Control 0", plan.Control(c, 0), 10}, {"Control 1", plan.Control(c, 1), 19}, {"Control 2", plan.Control(c, 2), -1},
		{"Buffer 0, 0", plan.Buffer(c, 0, 0), 11}, {"Buffer 0, 1", plan.Buffer(c, 0, 1), 15},
		{"Buffer 1, 0", plan.Buffer(c, 1, 0), 20}, {"Buffer 1, 1", plan.Buffer(c, 1, 1), 24},
		{"Buffer 2, 0", plan.Buffer(c, 2, 0), -1}, {"Buffer 0, 2", plan.Buffer(c, 0, 2), -1}, {"Buffer 1, -1", plan.Buffer(c, 1, -1), -1},
		{"Block 0", plan.Block(c, 0), -1}, {"Block 1", plan.Block(c, 1), 28}, {"Block 2", plan.Block(c, 2), 35},
		{"Block 3", plan.Block(c, 3), 42}, {"Block 4", plan.Block(c, 4), -1},
		{"Class 0", plan.Class(c, 0), -1}, {"Class 1", plan.Class(c, 1), 0}, {"Class 2", plan.Class(c, 2), 0},
		{"Class 3", plan.Class(c, 3), 1}, {"Class 4", plan.Class(c, 4), -1},
		{"Blocks", plan.Blocks(c), 3},
	} {
		if p.got != p.want {
			t.Errorf("%s: %d, want %d", p.name, p.got, p.want)
		}
	}
}

func TestClassAndBlocks(t *testing.T) {
	for _, r := range bent() {
		c := r.config()
		var classes []int
		if r.isRight() {
			for class, k := range c.Classes {
				for range k.Count {
					classes = append(classes, class)
				}
			}
		}
		if got := plan.Blocks(c); got != len(classes) {
			t.Errorf("Blocks(%v): %d, want %d", r, got, len(classes))
		}
		for _, b := range numbers() {
			want := -1
			if b >= 1 && b <= len(classes) {
				want = classes[b-1]
			}
			if got := plan.Class(c, b); got != want {
				t.Errorf("Class(%v, %d): %d, want %d", r, b, got, want)
			}
		}
	}
}

// A class without blocks leaves its numbers, and its words, to the other one.
func TestClassWithoutBlocks(t *testing.T) {
	low, high := onlyLow.config(), onlyHigh.config()
	if plan.Class(low, 4) != 0 || plan.Class(low, 5) != -1 || plan.Class(high, 1) != 1 || plan.Class(high, 6) != -1 {
		t.Error("blocks are of the wrong class")
	}
	if got, want := plan.Block(high, 1), plan.Buffer(high, 4, 1)+4; got != want {
		t.Errorf("block 1 lies at %d, want %d", got, want)
	}
	none := least.config()
	if plan.Blocks(none) != 0 || plan.Block(none, 1) != -1 || plan.Class(none, 1) != -1 {
		t.Error("there is a block, want none")
	}
}

// P4.4: what follows.

// claim takes n words from at on, and complains of those that are taken, or outside.
func claim(t *testing.T, taken []bool, at, n int) {
	t.Helper()
	for i := range n {
		if at+i < 0 || at+i >= len(taken) {
			t.Fatalf("word %d lies outside of %d words", at+i, len(taken))
		}
		if taken[at+i] {
			t.Fatalf("two things lie in word %d", at+i)
		}
		taken[at+i] = true
	}
}

// Each word is one thing's, just so.
func TestNoTwoInOneWord(t *testing.T) {
	for _, r := range bent() {
		if !r.isRight() {
			continue
		}
		c := r.config()
		taken := make([]bool, plan.Size(c))
		claim(t, taken, 0, 2)
		claim(t, taken, plan.Seq(), 1)
		claim(t, taken, plan.Head(0), 1)
		claim(t, taken, plan.Head(1), 1)
		for i := range c.Slots {
			claim(t, taken, plan.Slot(c, i), 1)
		}
		for i := range c.Topics {
			claim(t, taken, plan.Entry(c, i), 1)
			claim(t, taken, plan.Control(c, i), 1)
			claim(t, taken, plan.Buffer(c, i, 0), c.Small)
			claim(t, taken, plan.Buffer(c, i, 1), c.Small)
		}
		for b := 1; b <= plan.Blocks(c); b++ {
			claim(t, taken, plan.Block(c, b), 1+c.Classes[plan.Class(c, b)].Size)
		}
		for i, is := range taken {
			if !is {
				t.Errorf("%v: nothing lies in word %d", r, i)
			}
		}
	}
}
