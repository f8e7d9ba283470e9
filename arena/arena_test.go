package arena_test

import (
	"math"
	"slices"
	"testing"

	"intaglio/api"
	"intaglio/arena"
	"intaglio/cause"
)

// outside are numbers of words that an arena of n words has not.
func outside(n int) []int {
	return []int{-1, n, -2, n + 1, -n, api.MaxArena, api.MaxArena + 1, 1 << 31, 1 << 32, -1 << 32, math.MinInt, math.MinInt + 1, math.MaxInt - 1, math.MaxInt}
}

// noWord is the trouble of a step upon the word i, where there is none.
func noWord(i int) error {
	return cause.At(cause.New(api.ErrRange), i)
}

// same asks whether two troubles are alike, in their codes, their words and their texts.
func same(got, want error) bool {
	if got == nil || want == nil {
		return got == nil && want == nil
	}
	gotWord, gotAt := cause.Word(got)
	wantWord, wantAt := cause.Word(want)
	return slices.Equal(cause.Codes(got), cause.Codes(want)) && gotWord == wantWord && gotAt == wantAt && cause.Text(got) == cause.Text(want)
}

func checkWords(t *testing.T, a *arena.Arena, want ...uint64) {
	t.Helper()
	if got := a.Words(); !slices.Equal(got, want) {
		t.Errorf("Words: %v, want %v", got, want)
	}
}

func checkLast(t *testing.T, a *arena.Arena, want api.Access) {
	t.Helper()
	if got := a.Last(); got != want {
		t.Errorf("Last: %+v, want %+v", got, want)
	}
}

func checkErr(t *testing.T, a *arena.Arena, want error) {
	t.Helper()
	if got := a.Err(); !same(got, want) {
		t.Errorf("Err: %v, want %v", got, want)
	}
}

func checkSteps(t *testing.T, a *arena.Arena, want int) {
	t.Helper()
	if got := a.Steps(); got != want {
		t.Errorf("Steps: %d, want %d", got, want)
	}
}

// P3.1: made.

func TestNew(t *testing.T) {
	for n := 1; n <= api.MaxArena; n++ {
		a := arena.New(n)
		if a == nil {
			t.Fatalf("New(%d) is nil", n)
		}
		if a.Len() != n {
			t.Fatalf("New(%d): Len %d", n, a.Len())
		}
		if !slices.Equal(a.Words(), make([]uint64, n)) {
			t.Fatalf("New(%d): its words are not %d zeros", n, n)
		}
	}
	if api.MaxArena != 4096 {
		t.Errorf("MaxArena is %d, want 4096", api.MaxArena)
	}
}

func TestNewHadNoStep(t *testing.T) {
	a := arena.New(3)
	checkSteps(t, a, 0)
	checkLast(t, a, api.Access{})
	checkErr(t, a, nil)
}

func TestNewOfWrongNumbers(t *testing.T) {
	for _, n := range []int{0, -1, -2, -4096, 4097, 4098, 8192, 1 << 31, 1<<32 + 1, -1 << 32, 1<<62 + 1, math.MinInt, math.MinInt + 1, math.MaxInt - 1, math.MaxInt} {
		if arena.New(n) != nil {
			t.Errorf("New(%d) is an arena, want nil", n)
		}
	}
}

func TestWordsAreAllAsTheyAre(t *testing.T) {
	a := arena.New(api.MaxArena)
	want := make([]uint64, api.MaxArena)
	for i := range want {
		want[i] = math.MaxUint64 - uint64(i)*3
		a.Store(i, want[i])
	}
	checkWords(t, a, want...)
	for i := range want {
		if got := a.Load(i); got != want[i] {
			t.Fatalf("Load(%d): %d, want %d", i, got, want[i])
		}
	}
	if a.Len() != api.MaxArena {
		t.Errorf("Len: %d, want %d", a.Len(), api.MaxArena)
	}
}

// R3: what is told is the caller's.
func TestWordsAreNewMemory(t *testing.T) {
	a := arena.New(3)
	a.Store(1, 7)
	first, second := a.Words(), a.Words()
	first[1] = 9
	if second[1] != 7 {
		t.Error("two answers of Words share memory")
	}
	checkWords(t, a, 0, 7, 0)
	if got := a.Load(1); got != 7 {
		t.Errorf("what was told was changed by its caller, and the arena with it: %d, want 7", got)
	}
	_ = append(second[:1], 8, 8)
	checkWords(t, a, 0, 7, 0)
	third := a.Words()
	a.Store(1, 5)
	a.Swap(2, 0, 6)
	if !slices.Equal(third, []uint64{0, 7, 0}) {
		t.Errorf("steps changed what was told ahead of them: %v", third)
	}
}

func TestArenasAreApart(t *testing.T) {
	a, b := arena.New(2), arena.New(2)
	a.Store(0, 7)
	a.Load(5)
	checkWords(t, b, 0, 0)
	checkSteps(t, b, 0)
	checkLast(t, b, api.Access{})
	checkErr(t, b, nil)
	b.Swap(1, 0, 3)
	checkWords(t, a, 7, 0)
	checkSteps(t, a, 2)
	checkLast(t, a, api.Access{Kind: api.Load, Word: 5})
	checkErr(t, a, noWord(5))
}

// P3.2: steps.

func TestExample(t *testing.T) {
	a := arena.New(2)
	if !a.Swap(1, 0, 5) {
		t.Error("Swap(1, 0, 5): false, want true")
	}
	if a.Swap(1, 0, 6) {
		t.Error("Swap(1, 0, 6): true, want false")
	}
	if got := a.Load(1); got != 5 {
		t.Errorf("Load(1): %d, want 5", got)
	}
}

// Of two clients that load a word, and swap it to one more, one is told true.
func TestTwoClients(t *testing.T) {
	a := arena.New(1)
	a.Store(0, 41)
	first, second := a.Load(0), a.Load(0)
	if told, again := a.Swap(0, first, first+1), a.Swap(0, second, second+1); !told || again {
		t.Errorf("they are told %t, %t, want true, false", told, again)
	}
	checkWords(t, a, 42)
}

func TestLoadAndStore(t *testing.T) {
	a := arena.New(3)
	for _, v := range []uint64{1, 0, 1 << 31, 1 << 32, 1 << 63, math.MaxUint64, 7} {
		for i := range 3 {
			a.Store(i, v+uint64(i))
			if got := a.Load(i); got != v+uint64(i) {
				t.Errorf("Load(%d) behind Store(%d, %d): %d", i, i, v+uint64(i), got)
			}
		}
		checkWords(t, a, v, v+1, v+2)
	}
	checkErr(t, a, nil)
}

func TestSwap(t *testing.T) {
	for _, c := range []struct {
		is, old, new uint64
		told         bool
		behind       uint64
	}{
		{0, 0, 5, true, 5},
		{5, 0, 6, false, 5},
		{5, 6, 5, false, 5},
		{5, 5, 0, true, 0},
		{5, 5, 5, true, 5},
		{5, 6, 6, false, 5},
		{0, 5, 0, false, 0},
		{1 << 63, 0, 1, false, 1 << 63},
		{1 << 32, 0, 1, false, 1 << 32},
		{1 << 63, 1 << 63, 1, true, 1},
		{math.MaxUint64, math.MaxUint64, math.MaxUint64 - 1, true, math.MaxUint64 - 1},
		{math.MaxUint64, math.MaxUint64 >> 1, 1, false, math.MaxUint64},
	} {
		a := arena.New(3)
		for i := range 3 {
			a.Store(i, c.is)
		}
		if got := a.Swap(1, c.old, c.new); got != c.told {
			t.Errorf("Swap(1, %d, %d) of %d: %t, want %t", c.old, c.new, c.is, got, c.told)
		}
		checkWords(t, a, c.is, c.behind, c.is)
		checkLast(t, a, api.Access{Kind: api.Swap, Word: 1, Value: c.behind, Changed: c.told})
		checkSteps(t, a, 4)
		checkErr(t, a, nil)
	}
}

func TestStepsCountAll(t *testing.T) {
	a := arena.New(2)
	for round := range 1000 {
		a.Load(0)
		checkSteps(t, a, 8*round+1)
		a.Store(1, 0)
		checkSteps(t, a, 8*round+2)
		a.Swap(0, 0, 0)
		checkSteps(t, a, 8*round+3)
		a.Swap(0, 1, 2)
		checkSteps(t, a, 8*round+4)
		a.Load(2)
		checkSteps(t, a, 8*round+5)
		a.Store(-1, 4)
		checkSteps(t, a, 8*round+6)
		a.Swap(2, 0, 0)
		checkSteps(t, a, 8*round+7)
		a.Swap(-1, 0, 1)
		checkSteps(t, a, 8*round+8)
	}
}

func TestQuestionsAreNoSteps(t *testing.T) {
	a := arena.New(2)
	a.Store(1, 4)
	a.Load(2)
	for range 3 {
		a.Steps()
		a.Last()
		_ = a.Err()
		a.Len()
		a.Words()
	}
	checkSteps(t, a, 2)
	checkLast(t, a, api.Access{Kind: api.Load, Word: 2})
	checkErr(t, a, noWord(2))
	checkWords(t, a, 0, 4)
}

func TestWhereThereIsNoWord(t *testing.T) {
	for _, n := range []int{1, 3, api.MaxArena - 1} {
		for _, i := range outside(n) {
			steps := []struct {
				kind int
				step func(a *arena.Arena) bool
			}{
				{api.Load, func(a *arena.Arena) bool { return a.Load(i) == 0 }},
				{api.Store, func(a *arena.Arena) bool { a.Store(i, 9); return true }},
				{api.Swap, func(a *arena.Arena) bool { return !a.Swap(i, 0, 9) }},
				{api.Swap, func(a *arena.Arena) bool { return !a.Swap(i, 7, 9) }},
				{api.Swap, func(a *arena.Arena) bool { return !a.Swap(i, 0, 0) }},
			}
			for _, s := range steps {
				a := arena.New(n)
				want := make([]uint64, n)
				for k := range want {
					a.Store(k, 7)
					want[k] = 7
				}
				if !s.step(a) {
					t.Errorf("%d words: a step of kind %d upon word %d tells neither 0 nor false", n, s.kind, i)
				}
				checkWords(t, a, want...)
				checkSteps(t, a, n+1)
				checkLast(t, a, api.Access{Kind: s.kind, Word: i})
				checkErr(t, a, noWord(i))
			}
		}
	}
}

func TestErrNamesRangeAndWord(t *testing.T) {
	a := arena.New(3)
	a.Swap(3, 0, 1)
	err := a.Err()
	if got := cause.Codes(err); !slices.Equal(got, []api.Errno{api.ErrRange}) {
		t.Errorf("codes %v, want those of ErrRange", got)
	}
	if word, is := cause.Word(err); !is || word != 3 {
		t.Errorf("at word %d (%t), want 3", word, is)
	}
	if got := cause.Text(err); got != "word 3: intaglio: error 23" {
		t.Errorf("it is told as %q", got)
	}
	if err != cause.At(cause.New(api.ErrRange), 3) {
		t.Error("it is another one than cause.At of cause.New(ErrRange) and 3")
	}
}

func TestErrIsTheFirstOne(t *testing.T) {
	steps := []func(a *arena.Arena, i int){
		func(a *arena.Arena, i int) { a.Load(i) },
		func(a *arena.Arena, i int) { a.Store(i, 1) },
		func(a *arena.Arena, i int) { a.Swap(i, 0, 1) },
	}
	for _, first := range steps {
		for _, i := range outside(2) {
			a := arena.New(2)
			a.Store(0, 4)
			checkErr(t, a, nil)
			first(a, i)
			for _, other := range steps {
				for _, k := range outside(2) {
					other(a, k)
					checkErr(t, a, noWord(i))
				}
				other(a, 0)
				checkErr(t, a, noWord(i))
			}
		}
	}
}

// A trouble does not keep steps from being done.
func TestStepsGoOnBehindTrouble(t *testing.T) {
	a := arena.New(2)
	a.Load(2)
	a.Store(0, 5)
	if !a.Swap(1, 0, 6) || a.Load(0) != 5 || a.Load(1) != 6 {
		t.Error("steps behind a trouble are not done")
	}
	checkWords(t, a, 5, 6)
	checkSteps(t, a, 5)
	checkLast(t, a, api.Access{Kind: api.Load, Word: 1, Value: 6})
	checkErr(t, a, noWord(2))
}

// P3.3: last.

func TestLast(t *testing.T) {
	a := arena.New(3)
	checkLast(t, a, api.Access{})
	a.Load(2)
	checkLast(t, a, api.Access{Kind: 1, Word: 2})
	a.Store(2, 7)
	checkLast(t, a, api.Access{Kind: 2, Word: 2, Value: 7, Changed: true})
	a.Load(2)
	checkLast(t, a, api.Access{Kind: 1, Word: 2, Value: 7})
	a.Store(2, 7)
	checkLast(t, a, api.Access{Kind: 2, Word: 2, Value: 7, Changed: true})
	a.Swap(2, 7, 8)
	checkLast(t, a, api.Access{Kind: 3, Word: 2, Value: 8, Changed: true})
	a.Swap(2, 7, 9)
	checkLast(t, a, api.Access{Kind: 3, Word: 2, Value: 8})
	a.Swap(2, 8, 8)
	checkLast(t, a, api.Access{Kind: 3, Word: 2, Value: 8, Changed: true})
	a.Store(0, 0)
	checkLast(t, a, api.Access{Kind: 2, Word: 0, Changed: true})
	a.Swap(1, 0, 0)
	checkLast(t, a, api.Access{Kind: 3, Word: 1, Changed: true})
	a.Swap(1, 1, 0)
	checkLast(t, a, api.Access{Kind: 3, Word: 1})
}

func TestLastIsTheCallers(t *testing.T) {
	a := arena.New(1)
	a.Store(0, 7)
	told := a.Last()
	a.Swap(0, 7, 8)
	if want := (api.Access{Kind: api.Store, Value: 7, Changed: true}); told != want {
		t.Errorf("a step changed what was told ahead of it: %+v, want %+v", told, want)
	}
}

// Of nothing.

func TestNilArena(t *testing.T) {
	var a *arena.Arena
	for _, i := range append(outside(1), 0, 1) {
		a.Store(i, 5)
		if got := a.Load(i); got != 0 {
			t.Errorf("Load(%d): %d, want 0", i, got)
		}
		for _, old := range []uint64{0, 5} {
			if a.Swap(i, old, 6) {
				t.Errorf("Swap(%d, %d, 6): true, want false", i, old)
			}
		}
		checkSteps(t, a, 0)
		checkLast(t, a, api.Access{})
		checkErr(t, a, cause.New(api.ErrArg))
		if got := a.Len(); got != 0 {
			t.Errorf("Len: %d, want 0", got)
		}
		checkWords(t, a)
	}
	if _, is := cause.Word(a.Err()); is {
		t.Error("its trouble is at a word, want none")
	}
	if a.Err() != error(api.ErrArg) {
		t.Errorf("its trouble is %v, want the code ErrArg", a.Err())
	}
}

// P1: an arena that New did not make has no words, and does not panic either.
func TestArenaThatWasNotMade(t *testing.T) {
	a := new(arena.Arena)
	checkErr(t, a, nil)
	a.Store(0, 5)
	if a.Load(0) != 0 || a.Swap(0, 0, 5) || a.Len() != 0 {
		t.Error("it has a word, want none")
	}
	checkWords(t, a)
	checkSteps(t, a, 3)
	checkLast(t, a, api.Access{Kind: api.Swap})
	checkErr(t, a, noWord(0))
}
