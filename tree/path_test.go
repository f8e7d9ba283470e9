package tree_test

import (
	"math"
	"slices"
	"strconv"
	"testing"

	"intaglio/api"
	"intaglio/cause"
	"intaglio/tree"
)

// fact is what is told where a path ends, and of a path that goes on there to what there is not.
type fact struct {
	n      uint64
	beyond api.Errno
}

// facts are all paths of a right struct that lead to something, each number behind a slash.
func facts(s api.Schema, t int, v api.Tree, at string, all map[string]fact) {
	for i, f := range s[t] {
		field := v.Kids[i]
		here := at + "/" + strconv.Itoa(i)
		item := func(k int) string { return here + "/" + strconv.Itoa(k) }
		switch f.Kind {
		case 1:
			all[here] = fact{field.Num, api.ErrKind}
		case 2:
			all[here] = fact{uint64(len(field.Bytes)), api.ErrNone}
			for k, b := range []byte(field.Bytes) {
				all[item(k)] = fact{uint64(b), api.ErrKind}
			}
		case 3:
			all[here] = fact{uint64(len(field.Nums)), api.ErrNone}
			for k, n := range field.Nums {
				all[item(k)] = fact{n, api.ErrKind}
			}
		case 4:
			all[here] = fact{0, api.ErrNone}
			for _, inner := range field.Kids {
				all[here] = fact{1, api.ErrArg}
				facts(s, f.Type, inner, here, all)
			}
		case 5:
			all[here] = fact{uint64(len(field.Kids)), api.ErrNone}
			for k, inner := range field.Kids {
				all[item(k)] = fact{uint64(len(s[f.Type])), api.ErrArg}
				facts(s, f.Type, inner, item(k), all)
			}
		}
	}
}

// lead is what Get must tell, of the struct of which these are the facts.
func lead(all map[string]fact, path []int) (uint64, error) {
	here, last := "", fact{0, api.ErrArg}
	for _, k := range path {
		here += "/" + strconv.Itoa(k)
		next, is := all[here]
		if !is {
			return 0, cause.New(last.beyond)
		}
		last = next
	}
	if len(path) == 0 {
		return 0, cause.New(api.ErrArg)
	}
	return last.n, nil
}

// P6.3: got.

func checkGet(t *testing.T, c value, all map[string]fact, path []int) {
	t.Helper()
	before := slices.Clone(path)
	got, err := tree.Get(c.s, c.t, c.v, path...)
	want, wantErr := lead(all, path)
	if got != want || err != wantErr {
		t.Fatalf("Get(%v, %d, %v, %v): %d, %v, want %d, %v", c.s, c.t, c.v, path, got, err, want, wantErr)
	}
	if !slices.Equal(path, before) {
		t.Fatalf("Get changed the path %v to %v", before, path)
	}
}

// paths are all paths of up to so many of the numbers, each ahead of those that go on from it.
func paths(longest int, numbers []int) [][]int {
	all := [][]int{{}}
	for i := 0; i < len(all); i++ {
		if len(all[i]) == longest {
			break
		}
		for _, k := range numbers {
			all = append(all, append(slices.Clone(all[i]), k))
		}
	}
	return all
}

func TestGetOfShortPaths(t *testing.T) {
	short := paths(4, []int{-1, 0, 1, 2, 3, 4, 5, 6, 12})
	for _, c := range rights() {
		all := map[string]fact{}
		facts(c.s, c.t, c.v, "", all)
		before := copied(c.v)
		for _, path := range short {
			checkGet(t, c, all, path)
		}
		if !equal(before, c.v) {
			t.Fatalf("Get changed %v to %v", before, c.v)
		}
	}
}

// All paths that lead to something, however long, and what lies one number behind them, and three.
func TestGetOfAllThereIs(t *testing.T) {
	longest := 0
	for _, c := range rights() {
		all := map[string]fact{}
		facts(c.s, c.t, c.v, "", all)
		for here := range all {
			path := numbersOf(here)
			longest = max(longest, len(path))
			checkGet(t, c, all, path)
			for _, k := range []int{-1, 0, 1, 2, 5, 6, 11, 12, 40, math.MinInt, math.MaxInt, 1 << 32, -1 << 32} {
				checkGet(t, c, all, append(slices.Clone(path), k))
				checkGet(t, c, all, append(slices.Clone(path), k, 0, 0))
			}
		}
	}
	if longest < 9 {
		t.Errorf("the longest path has %d numbers: too few to tell", longest)
	}
}

func numbersOf(here string) []int {
	var path []int
	for _, b := range []byte(here) {
		if b == '/' {
			path = append(path, 0)
			continue
		}
		last := len(path) - 1
		path[last] = path[last]*10 + int(b-'0')
	}
	return path
}

func TestExample(t *testing.T) {
	s, v := api.Schema{{num(), nums()}}, kids(n(7), row(5, 6))
	if got, err := tree.Get(s, 0, v, 1, 0); got != 5 || err != nil {
		t.Errorf("Get of 1, 0: %d, %v, want 5", got, err)
	}
}

func TestGetByHand(t *testing.T) {
	f := flat()
	long := kids(text("\xffé"), kids(f[2]))
	v := kids(n(math.MaxUint64), text("abc"), row(8, 0), kids(kids(kids(f[0], f[0], f[0]), n(4))), kids(long, f[2]), kids())
	for _, c := range []struct {
		path []int
		want uint64
		code api.Errno
	}{
		{nil, 0, api.ErrArg},
		{[]int{-1}, 0, api.ErrArg},
		{[]int{6}, 0, api.ErrArg},
		{[]int{math.MinInt, 0}, 0, api.ErrArg},
		{[]int{0}, math.MaxUint64, 0},
		{[]int{0, 0}, 0, api.ErrKind},
		{[]int{0, -1}, 0, api.ErrKind},
		{[]int{0, 0, 0, 0}, 0, api.ErrKind},
		{[]int{1}, 3, 0},
		{[]int{1, 0}, 'a', 0},
		{[]int{1, 2}, 'c', 0},
		{[]int{1, 3}, 0, api.ErrNone},
		{[]int{1, -1}, 0, api.ErrNone},
		{[]int{1, 3, 0}, 0, api.ErrNone},
		{[]int{1, 2, 0}, 0, api.ErrKind},
		{[]int{2}, 2, 0},
		{[]int{2, 0}, 8, 0},
		{[]int{2, 1}, 0, 0},
		{[]int{2, 2}, 0, api.ErrNone},
		{[]int{2, 2, 2}, 0, api.ErrNone},
		{[]int{2, 0, 0}, 0, api.ErrKind},
		{[]int{3}, 1, 0},
		{[]int{3, 0}, 3, 0},
		{[]int{3, 1}, 4, 0},
		{[]int{3, 2}, 0, api.ErrArg},
		{[]int{3, -1}, 0, api.ErrArg},
		{[]int{3, 1, 0}, 0, api.ErrKind},
		{[]int{3, 0, 2}, 6, 0},
		{[]int{3, 0, 3}, 0, api.ErrNone},
		{[]int{3, 0, 2, 2, 1}, 77, 0},
		{[]int{3, 0, 2, 6}, 0, api.ErrArg},
		{[]int{4}, 2, 0},
		{[]int{4, 0}, 2, 0},
		{[]int{4, 0, 0}, 3, 0},
		{[]int{4, 0, 0, 0}, 0xff, 0},
		{[]int{4, 0, 0, 1}, 0xc3, 0},
		{[]int{4, 0, 1}, 1, 0},
		{[]int{4, 0, 1, 1}, 0, 0},
		{[]int{4, 0, 1, 1, 0}, 0, api.ErrNone},
		{[]int{4, 1, 1}, 0, 0},
		{[]int{4, 2}, 0, api.ErrNone},
		{[]int{4, 2, 9}, 0, api.ErrNone},
		{[]int{4, -1}, 0, api.ErrNone},
		{[]int{4, 0, 2}, 0, api.ErrArg},
		{[]int{5}, 0, 0},
		{[]int{5, 0}, 0, api.ErrNone},
		{[]int{5, -1}, 0, api.ErrNone},
		{[]int{5, 9, 9}, 0, api.ErrNone},
	} {
		got, err := tree.Get(broad(), 0, v, c.path...)
		if got != c.want || err != cause.New(c.code) {
			t.Errorf("Get of %v: %d, %v, want %d, %v", c.path, got, err, c.want, c.code)
		}
	}
}

// Check's error is told ahead of the path's.
func TestGetOfWrongOnes(t *testing.T) {
	tries := [][]int{nil, {0}, {-1}, {0, 0}, {1, 0, 0}, {9, 9}}
	told := map[api.Errno]int{}
	check := func(s api.Schema, ty int, v api.Tree) {
		want := tree.Check(s, ty, v)
		if want == nil {
			return
		}
		told[cause.Top(want)]++
		for _, path := range tries {
			if got, err := tree.Get(s, ty, v, path...); got != 0 || err != want {
				t.Fatalf("Get(%v, %d, %v, %v): %d, %v, want %v", s, ty, v, path, got, err, want)
			}
		}
	}
	for _, c := range rights() {
		for _, v := range bent(c.v) {
			check(c.s, c.t, v)
		}
		check(c.s, -1, c.v)
		check(c.s, len(c.s), c.v)
	}
	for _, s := range wrongSchemas() {
		check(s, 0, kids(n(1)))
	}
	for _, code := range []api.Errno{api.ErrArg, api.ErrKind, api.ErrOver} {
		if told[code] < 20 {
			t.Errorf("%v was told %d times: too few to tell", code, told[code])
		}
	}
}

// A path may be longer than any struct is deep.
func TestGetOfLongPaths(t *testing.T) {
	path := make([]int, 1<<20)
	chain := api.Schema{{one(0)}}
	v := kids(kids(kids(kids())))
	if got, err := tree.Get(chain, 0, v, path...); got != 0 || err != cause.New(api.ErrNone) {
		t.Errorf("Get of a long path: %d, %v, want ErrNone", got, err)
	}
}
