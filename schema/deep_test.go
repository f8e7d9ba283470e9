package schema_test

import (
	"math"
	"slices"
	"testing"

	"intaglio/api"
	"intaglio/schema"
)

// deep is how many structs lie within one another at most, but no more than 6, counted from the outermost one inwards: which types may lie within so many others?
func deep(s api.Schema, t int) int {
	if !isRight(s) || t < 0 || t >= len(s) {
		return 0
	}
	n := 0
	for level := []int{t}; len(level) > 0 && n < 6; n++ {
		var inner []int
		for _, outer := range level {
			for _, f := range s[outer] {
				if f.Kind >= 4 && !slices.Contains(inner, f.Type) {
					inner = append(inner, f.Type)
				}
			}
		}
		level = inner
	}
	return n
}

func checkDeep(t *testing.T, s api.Schema) {
	t.Helper()
	for n := -2; n < 10; n++ {
		if got, want := schema.Deep(s, n), deep(s, n); got != want {
			t.Errorf("Deep(%v, %d): %d, want %d", short(s), n, got, want)
		}
	}
}

func TestDeep(t *testing.T) {
	for _, s := range bent() {
		before := clone(s)
		checkDeep(t, s)
		if !equal(s, before) {
			t.Errorf("Deep changed %v to %v", short(before), short(s))
		}
	}
}

func TestDeepByHand(t *testing.T) {
	for _, c := range []struct {
		what string
		s    api.Schema
		want []int
	}{
		{"without structs", api.Schema{{num(), bytes(), nums()}}, []int{1}},
		{"One of itself", api.Schema{{one(0)}}, []int{6}},
		{"Many of itself", api.Schema{{num(), many(0)}}, []int{6}},
		{"of one another", api.Schema{{one(1)}, {num(), many(0)}, {num()}}, []int{6, 6, 1}},
		{"of a ring of three", api.Schema{{many(3)}, {one(2)}, {one(3)}, {one(1)}, {one(4), num()}}, []int{6, 6, 6, 6, 6}},
		{"of one that leads to itself", api.Schema{{one(1), one(2)}, {many(1)}, {num()}}, []int{6, 6, 1}},
		{"a chain, rising", chain(8), []int{6, 6, 6, 5, 4, 3, 2, 1}},
		{"five, and no more", chain(5), []int{5, 4, 3, 2, 1}},
		{"six", chain(6), []int{6, 5, 4, 3, 2, 1}},
		{"a chain, falling", api.Schema{{num()}, {one(0)}, {many(1)}, {one(2)}, {many(3)}, {one(4)}, {one(5)}}, []int{1, 2, 3, 4, 5, 6, 6}},
		{"the deepest field first", api.Schema{{one(1), one(3)}, {one(2)}, {one(3)}, {num()}}, []int{4, 3, 2, 1}},
		{"the deepest field last", api.Schema{{one(3), num(), many(1)}, {num(), one(2)}, {many(3)}, {nums()}}, []int{4, 3, 2, 1}},
		{"a type that two have", api.Schema{{one(2)}, {one(0), many(2)}, {num()}}, []int{2, 3, 1}},
		{"plain kinds have no type 0", api.Schema{{one(1)}, {num(), bytes(), nums()}}, []int{2, 1}},
	} {
		for n, want := range c.want {
			if got := schema.Deep(c.s, n); got != want {
				t.Errorf("%s: type %d is %d deep, want %d", c.what, n, got, want)
			}
		}
		checkDeep(t, c.s)
	}
}

func TestDeepOfNoType(t *testing.T) {
	for _, n := range []int{-1, 2, 8, math.MinInt, math.MaxInt, 1 << 32, -1 << 32} {
		if got := schema.Deep(chain(2), n); got != 0 {
			t.Errorf("type %d is %d deep, want 0", n, got)
		}
	}
}

// All schemas of three types, each of which has structs of none, one or two types.
func TestDeepOfAllSmallOnes(t *testing.T) {
	types := [][]api.Field{{num()}}
	for a := range 3 {
		types = append(types, []api.Field{num(), one(a)})
		for b := range 3 {
			types = append(types, []api.Field{one(a), many(b)})
		}
	}
	for _, x := range types {
		for _, y := range types {
			for _, z := range types {
				checkDeep(t, api.Schema{x, y, z})
			}
		}
	}
}

// mixed are schemas that are drawn: most types have structs of some others.
func mixed(n int) []api.Schema {
	x := uint64(n)
	draw := func(n int) int {
		x = x*6364136223846793005 + 1442695040888963407
		return int((x >> 33) % uint64(n))
	}
	var all []api.Schema
	for range n {
		s := make(api.Schema, 1+draw(8))
		upwards := draw(2) == 0
		for t := range s {
			s[t] = make([]api.Field, 1+draw(6))
			for i := range s[t] {
				switch kind := 1 + draw(5); {
				case kind < 4 || upwards && t == len(s)-1:
					s[t][i].Kind = 1 + draw(3)
				case upwards:
					s[t][i] = api.Field{Kind: kind, Type: t + 1 + draw(len(s)-1-t)}
				default:
					s[t][i] = api.Field{Kind: kind, Type: draw(len(s))}
				}
			}
		}
		all = append(all, s)
	}
	return all
}

func TestDeepOfMixedOnes(t *testing.T) {
	seen := map[int]int{}
	for _, s := range mixed(4000) {
		checkDeep(t, s)
		seen[deep(s, 0)]++
	}
	for d := 1; d <= 6; d++ {
		if seen[d] < 20 {
			t.Errorf("%d of the mixed schemas are %d deep: too few to tell", seen[d], d)
		}
	}
}
