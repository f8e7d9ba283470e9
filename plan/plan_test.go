package plan_test

import (
	"math"
	"slices"
	"testing"

	"intaglio/api"
	"intaglio/cause"
	"intaglio/plan"
)

// row is a config's numbers in the order in which the chapter packs them: Topics, Small, Slots, Clients, Retry, and of both classes Size and Count.
type row [9]int

func (r row) config() api.Config {
	return api.Config{Topics: r[0], Small: r[1], Slots: r[2], Clients: r[3], Retry: r[4],
		Classes: [2]api.Class{{Size: r[5], Count: r[6]}, {Size: r[7], Count: r[8]}}}
}

// isRight is the chapter's own words.
func (r row) isRight() bool {
	within := func(n, least, most int) bool { return least <= n && n <= most }
	return within(r[0], 1, 8) && within(r[1], 4, 32) && within(r[2], 1, 8) && within(r[3], 1, 8) && within(r[4], 1, 8) &&
		within(r[5], 4, 96) && within(r[6], 0, 12) && within(r[7], 4, 96) && within(r[8], 0, 12) && r[7] > r[5]
}

// packed is the chapter's own words, of a right one.
func (r row) packed() uint64 {
	w := uint64(0)
	for i := len(r) - 1; i >= 0; i-- {
		w = w*128 + uint64(r[i])
	}
	return w
}

func unpacked(w uint64) row {
	var r row
	for i := range r {
		r[i] = int(w % 128)
		w /= 128
	}
	return r
}

var (
	small    = row{1, 4, 1, 1, 1, 4, 1, 8, 1}
	least    = row{1, 4, 1, 1, 1, 4, 0, 5, 0}
	most     = row{8, 32, 8, 8, 8, 95, 12, 96, 12}
	usual    = row{3, 9, 4, 2, 5, 6, 2, 10, 3}
	onlyLow  = row{2, 5, 3, 4, 2, 7, 4, 8, 0}
	onlyHigh = row{5, 4, 2, 1, 8, 4, 0, 96, 5}
)

func rights() []row { return []row{small, least, most, usual, onlyLow, onlyHigh} }

// edges are numbers at the limits of each part, and far beyond, among them some that are like a right one in their lowest bits.
func edges() []int {
	return []int{-1, 0, 1, 2, 3, 4, 5, 8, 9, 11, 12, 13, 31, 32, 33, 94, 95, 96, 97, 127, 128, 132, 128 + 8, 1 << 32, 1<<32 + 4, -4, -124,
		math.MinInt, math.MinInt + 4, math.MaxInt, math.MaxInt - 1}
}

// bent are the right rows with one number, or two, replaced by an edge.
func bent() []row {
	var all []row
	for _, r := range rights() {
		all = append(all, r)
		for i := range r {
			for _, n := range edges() {
				one := r
				one[i] = n
				all = append(all, one)
				for k := range i {
					two := one
					two[k] = edges()[(i*7+k*5+len(all))%len(edges())]
					all = append(all, two)
				}
			}
		}
	}
	return all
}

// wrong are rows that are no right config's.
func wrong() []row {
	return slices.DeleteFunc(bent(), row.isRight)
}

// same asks whether two troubles are alike, in their codes, their words and their texts.
func same(got, want error) bool {
	if got == nil || want == nil {
		return got == nil && want == nil
	}
	gotWord, gotAt := cause.Word(got)
	wantWord, wantAt := cause.Word(want)
	return slices.Equal(cause.Codes(got), cause.Codes(want)) && gotWord == wantWord && gotAt == wantAt && cause.Text(got) == cause.Text(want)
}

func checkErr(t *testing.T, what string, got, want error) {
	t.Helper()
	if !same(got, want) {
		t.Errorf("%s: %v, want %v", what, got, want)
	}
}

// P4.1: checked.

func TestCheck(t *testing.T) {
	right, not := 0, 0
	for _, r := range bent() {
		var want error
		if r.isRight() {
			right++
		} else {
			not++
			want = cause.New(api.ErrArg)
		}
		if got := plan.Check(r.config()); !same(got, want) {
			t.Errorf("Check(%v): %v, want %v", r, got, want)
		}
	}
	if right < 100 || not < 100 {
		t.Fatalf("%d right ones and %d that are not were tried: too few", right, not)
	}
}

// Each number by itself, from below its least one to beyond its most one.
func TestCheckEachNumber(t *testing.T) {
	for i, c := range []struct {
		name        string
		least, most int
	}{
		{"Topics", 1, 8}, {"Small", 4, 32}, {"Slots", 1, 8}, {"Clients", 1, 8}, {"Retry", 1, 8},
		{"the first Size", 4, 95}, {"the first Count", 0, 12}, {"the second Size", 5, 96}, {"the second Count", 0, 12},
	} {
		for n := -200; n <= 300; n++ {
			r := row{4, 16, 4, 4, 4, 4, 6, 96, 6}
			r[i] = n
			want := n >= c.least && n <= c.most
			if got := plan.Check(r.config()) == nil; got != want {
				t.Errorf("%s %d is right: %t, want %t", c.name, n, got, want)
			}
		}
	}
}

func TestCheckSecondClassIsGreater(t *testing.T) {
	for first := 3; first <= 97; first++ {
		for second := 3; second <= 97; second++ {
			for _, count := range []int{0, 3} {
				r := row{1, 4, 1, 1, 1, first, count, second, count}
				want := first >= 4 && second <= 96 && second > first
				if got := plan.Check(r.config()) == nil; got != want {
					t.Errorf("Sizes %d and %d are right: %t, want %t", first, second, got, want)
				}
			}
		}
	}
}

func TestSize(t *testing.T) {
	for _, c := range []struct {
		r    row
		size int
	}{
		{small, 30}, // the chapter's example
		{least, 5 + 1 + 1 + 9},
		{most, 5 + 8 + 8 + 8*65 + 12*96 + 12*97},
		{row{2, 4, 3, 2, 5, 6, 2, 10, 1}, 53},
		{onlyLow, 5 + 3 + 2 + 2*11 + 4*8},
		{onlyHigh, 5 + 2 + 5 + 5*9 + 5*97},
	} {
		if got := plan.Size(c.r.config()); got != c.size {
			t.Errorf("Size(%v): %d, want %d", c.r, got, c.size)
		}
	}
}

func TestSizeIsThatOfAnArena(t *testing.T) {
	for _, r := range bent() {
		got := plan.Size(r.config())
		if r.isRight() && (got < 1 || got > api.MaxArena) {
			t.Errorf("Size(%v): %d, no arena's", r, got)
		}
		if !r.isRight() && got != 0 {
			t.Errorf("Size(%v): %d, want 0", r, got)
		}
	}
}

func TestPack(t *testing.T) {
	for _, r := range bent() {
		want := uint64(0)
		if r.isRight() {
			want = r.packed()
		}
		if got := plan.Pack(r.config()); got != want {
			t.Errorf("Pack(%v): %x, want %x", r, got, want)
		}
	}
}

// Each number by its own bits.
func TestPackBits(t *testing.T) {
	c := api.Config{Topics: 1, Small: 4, Slots: 2, Clients: 3, Retry: 5, Classes: [2]api.Class{{Size: 6, Count: 7}, {Size: 80, Count: 9}}}
	want := uint64(1) | 4<<7 | 2<<14 | 3<<21 | 5<<28 | 6<<35 | 7<<42 | 80<<49 | 9<<56
	if got := plan.Pack(c); got != want {
		t.Errorf("Pack: %x, want %x", got, want)
	}
	if got, err := plan.Unpack(want); got != c || err != nil {
		t.Errorf("Unpack: %+v, %v, want %+v", got, err, c)
	}
}

// checkUnpack holds Unpack of any word against the chapter.
func checkUnpack(t *testing.T, w uint64) {
	t.Helper()
	var want api.Config
	var wantErr error = cause.New(api.ErrForm)
	if r := unpacked(w); w>>63 == 0 && r.isRight() {
		want, wantErr = r.config(), nil
	}
	got, err := plan.Unpack(w)
	if got != want || !same(err, wantErr) {
		t.Errorf("Unpack(%x): %+v, %v, want %+v, %v", w, got, err, want, wantErr)
	}
}

func TestUnpack(t *testing.T) {
	for _, w := range []uint64{0, 1, api.Magic, math.MaxUint64, math.MaxInt64, 1 << 63} {
		checkUnpack(t, w)
	}
	for _, r := range rights() {
		w := r.packed()
		checkUnpack(t, w)
		for i := range 64 {
			checkUnpack(t, w^1<<i)
			for k := range i {
				checkUnpack(t, w^1<<i^1<<k)
			}
		}
		for i := range 9 {
			for n := range uint64(128) {
				checkUnpack(t, w&^(127<<(7*i))|n<<(7*i))
			}
		}
	}
}

func TestUnpackWants63Bits(t *testing.T) {
	for _, r := range rights() {
		got, err := plan.Unpack(r.packed() | 1<<63)
		if got != (api.Config{}) || !same(err, cause.New(api.ErrForm)) {
			t.Errorf("%v with the highest bit: %+v, %v, want none and ErrForm", r, got, err)
		}
	}
}

func TestUnpackTakesBackPack(t *testing.T) {
	for _, r := range bent() {
		c := r.config()
		got, err := plan.Unpack(plan.Pack(c))
		if r.isRight() && (got != c || err != nil) {
			t.Errorf("%v came back as %+v, %v", r, got, err)
		}
		if !r.isRight() && (got != (api.Config{}) || !same(err, cause.New(api.ErrForm))) {
			t.Errorf("%v, that is not right, came back as %+v, %v", r, got, err)
		}
	}
}
