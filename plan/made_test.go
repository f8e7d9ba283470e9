package plan_test

import (
	"slices"
	"testing"

	"intaglio/api"
	"intaglio/arena"
	"intaglio/cause"
	"intaglio/plan"
)

// made are the words of a right config's arena, as the chapter tells them.
func made(r row) []uint64 {
	c := r.config()
	things := spelled(c)
	words := make([]uint64, len(things))
	low, all := c.Classes[0].Count, c.Classes[0].Count+c.Classes[1].Count
	for i, w := range things {
		switch {
		case w.kind == "magic":
			words[i] = api.Magic
		case w.kind == "config":
			words[i] = r.packed()
		case w.kind == "head" && w.i == 0 && low > 0:
			words[i] = 1
		case w.kind == "head" && w.i == 1 && all > low:
			words[i] = uint64(low + 1)
		case w.kind == "block" && w.i != low && w.i != all:
			words[i] = uint64(w.i + 1)
		}
	}
	return words
}

// arenaOf is an arena of these words.
func arenaOf(words []uint64) *arena.Arena {
	a := arena.New(len(words))
	for i, w := range words {
		a.Store(i, w)
	}
	return a
}

// P4.3: made.

func TestMake(t *testing.T) {
	for _, r := range bent() {
		if !r.isRight() {
			continue
		}
		a, err := plan.Make(r.config())
		if err != nil || a == nil {
			t.Fatalf("Make(%v): %v, %v", r, a, err)
		}
		want := made(r)
		if got := a.Words(); !slices.Equal(got, want) {
			t.Errorf("Make(%v): words %v, want %v", r, got, want)
		}
		checkMadeBySteps(t, a, want)
	}
}

// checkMadeBySteps asks for one Store of each word that is not 0, in order: how many there were, and that the last one was that of the last word.
func checkMadeBySteps(t *testing.T, a *arena.Arena, words []uint64) {
	t.Helper()
	steps, last := 0, api.Access{}
	for i, w := range words {
		if w != 0 {
			steps++
			last = api.Access{Kind: api.Store, Word: i, Value: w, Changed: true}
		}
	}
	if got := a.Steps(); got != steps {
		t.Errorf("%d steps, want %d", got, steps)
	}
	if got := a.Last(); got != last {
		t.Errorf("the last step was %+v, want %+v", got, last)
	}
	checkErr(t, "a made arena's Err", a.Err(), nil)
}

func TestMakeByHand(t *testing.T) {
	c := row{1, 4, 1, 1, 1, 4, 3, 5, 2}.config()
	a, err := plan.Make(c)
	checkErr(t, "Make", err, nil)
	got := a.Words()
	want := make([]uint64, 43)
	want[0], want[1], want[3], want[4] = api.Magic, plan.Pack(c), 1, 4
	want[16], want[21], want[26] = 2, 3, 0
	want[31], want[37] = 5, 0
	if !slices.Equal(got, want) {
		t.Errorf("words %v, want %v", got, want)
	}
	if a.Steps() != 7 {
		t.Errorf("%d steps, want 7", a.Steps())
	}
}

func TestMakeWithoutBlocks(t *testing.T) {
	for _, c := range []struct {
		r           row
		first       uint64
		second      uint64
		steps, last int
	}{
		{least, 0, 0, 2, 1},
		{onlyLow, 1, 0, 2 + 1 + 3, 5 + 3 + 2 + 2*11 + 2*8},
		{onlyHigh, 0, 1, 2 + 1 + 4, 5 + 2 + 5 + 5*9 + 3*97},
	} {
		a, err := plan.Make(c.r.config())
		checkErr(t, "Make", err, nil)
		words := a.Words()
		if words[3] != c.first || words[4] != c.second {
			t.Errorf("%v: heads %d and %d, want %d and %d", c.r, words[3], words[4], c.first, c.second)
		}
		if a.Steps() != c.steps || a.Last().Word != c.last {
			t.Errorf("%v: %d steps, the last one upon word %d, want %d, %d", c.r, a.Steps(), a.Last().Word, c.steps, c.last)
		}
	}
}

func TestMakeOfAWrongConfig(t *testing.T) {
	for _, r := range wrong() {
		a, err := plan.Make(r.config())
		if a != nil || !same(err, cause.New(api.ErrArg)) {
			t.Errorf("Make(%v): %v, %v, want none and ErrArg", r, a, err)
		}
	}
}

// Arenas that are made of one config are apart.
func TestMadeArenasAreApart(t *testing.T) {
	a, _ := plan.Make(small.config())
	b, _ := plan.Make(small.config())
	a.Store(5, 77)
	if b.Load(5) != 0 {
		t.Error("a step upon one arena is seen in another one")
	}
	if c, _ := plan.Make(small.config()); !slices.Equal(c.Words(), made(small)) {
		t.Error("a step upon a made arena changes those that are made later")
	}
}

// Open.

// checkOpen holds Open against what is to be told, and asks that no step was done.
func checkOpen(t *testing.T, what string, a *arena.Arena, want api.Config, wantErr error) {
	t.Helper()
	steps, last, err, words := a.Steps(), a.Last(), a.Err(), a.Words()
	got, gotErr := plan.Open(a)
	if got != want {
		t.Errorf("%s: %+v, want %+v", what, got, want)
	}
	checkErr(t, what, gotErr, wantErr)
	if a.Steps() != steps || a.Last() != last || !same(a.Err(), err) || !slices.Equal(a.Words(), words) {
		t.Errorf("%s: the arena was stepped", what)
	}
}

func TestOpenOfAMadeArena(t *testing.T) {
	for _, r := range bent() {
		if r.isRight() {
			a, _ := plan.Make(r.config())
			checkOpen(t, "a made arena", a, r.config(), nil)
		}
	}
}

// Open asks for the first two words, and for how many there are, and for no more.
func TestOpenOfAnArenaThatWentOn(t *testing.T) {
	a, _ := plan.Make(usual.config())
	for i := 2; i < a.Len(); i++ {
		a.Store(i, ^uint64(i))
	}
	a.Load(a.Len())
	checkOpen(t, "an arena that went on", a, usual.config(), nil)
}

func TestOpenTroubles(t *testing.T) {
	form, rng := cause.New(api.ErrForm), cause.New(api.ErrRange)
	right := made(usual)
	with := func(i int, w uint64) []uint64 {
		words := slices.Clone(right)
		words[i] = w
		return words
	}
	both := with(0, 0)
	both[1] = 0
	for _, c := range []struct {
		what  string
		words []uint64
		want  error
	}{
		{"all 0", make([]uint64, 30), cause.At(form, 0)},
		{"no Magic", with(0, 0), cause.At(form, 0)},
		{"Magic and one", with(0, api.Magic+1), cause.At(form, 0)},
		{"neither Magic nor a config", both, cause.At(form, 0)},
		{"one word, that is not Magic", []uint64{7}, cause.At(form, 0)},
		{"one word, that is Magic", []uint64{api.Magic}, rng},
		{"two words, no config", []uint64{api.Magic, 0}, cause.At(form, 1)},
		{"two words, a config", []uint64{api.Magic, usual.packed()}, rng},
		{"two words, neither", []uint64{0, 0}, cause.At(form, 0)},
		{"no config", with(1, 0), cause.At(form, 1)},
		{"the highest bit", with(1, usual.packed()|1<<63), cause.At(form, 1)},
		{"a config that is not right", with(1, row{0, 9, 4, 2, 5, 6, 2, 10, 3}.packed()), cause.At(form, 1)},
		{"no config, and too short", with(1, 0)[:9], cause.At(form, 1)},
		{"one word less", right[:len(right)-1], rng},
		{"one word more", append(slices.Clone(right), 0), rng},
		{"another config", with(1, small.packed()), rng},
		{"as many words as there may be", append(slices.Clone(right), make([]uint64, api.MaxArena-len(right))...), rng},
	} {
		checkOpen(t, c.what, arenaOf(c.words), api.Config{}, c.want)
	}
}

func TestOpenOfNothing(t *testing.T) {
	c, err := plan.Open(nil)
	if c != (api.Config{}) {
		t.Errorf("Open(nil): %+v, want none", c)
	}
	checkErr(t, "Open(nil)", err, cause.New(api.ErrArg))
	checkOpen(t, "an arena that New did not make", new(arena.Arena), api.Config{}, cause.At(cause.New(api.ErrForm), 0))
}

// Another config of the same Size is the one that is told: Size alone is held against the arena.
func TestOpenTellsWhatWord1Is(t *testing.T) {
	a, _ := plan.Make(usual.config())
	other := usual
	other[3], other[4] = 7, 1
	a.Store(1, other.packed())
	checkOpen(t, "another number of clients", a, other.config(), nil)
}

func TestTroubleTexts(t *testing.T) {
	one := arena.New(1)
	one.Store(0, api.Magic)
	_, unpack := plan.Unpack(0)
	_, magic := plan.Open(arena.New(2))
	_, short := plan.Open(one)
	_, config := plan.Open(arenaOf([]uint64{api.Magic, 0}))
	for _, c := range []struct {
		err  error
		want string
	}{
		{plan.Check(api.Config{}), "intaglio: error 1"},
		{unpack, "intaglio: error 10"},
		{magic, "word 0: intaglio: error 10"},
		{short, "intaglio: error 23"},
		{config, "word 1: intaglio: error 10"},
	} {
		if got := cause.Text(c.err); got != c.want {
			t.Errorf("the trouble %q, want %q", got, c.want)
		}
	}
}
