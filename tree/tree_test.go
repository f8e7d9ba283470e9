package tree_test

import (
	"math"
	"slices"
	"strings"
	"testing"

	"intaglio/api"
	"intaglio/cause"
	"intaglio/tree"
)

// Fields of a schema.
func num() api.Field       { return api.Field{Kind: api.Num} }
func bytes() api.Field     { return api.Field{Kind: api.Bytes} }
func nums() api.Field      { return api.Field{Kind: api.Nums} }
func one(t int) api.Field  { return api.Field{Kind: api.One, Type: t} }
func many(t int) api.Field { return api.Field{Kind: api.Many, Type: t} }

// Trees: a number, a text, numbers, and what has Kids (a struct its fields, a field its structs).
func n(x uint64) api.Tree           { return api.Tree{Num: x} }
func text(s string) api.Tree        { return api.Tree{Bytes: s} }
func row(x ...uint64) api.Tree      { return api.Tree{Nums: x} }
func kids(all ...api.Tree) api.Tree { return api.Tree{Kids: all} }

// times is v, so often.
func times(count int, v api.Tree) []api.Tree { return slices.Repeat([]api.Tree{v}, count) }

// broad is a schema with all kinds of fields; its types lead to one another, and to themselves.
func broad() api.Schema {
	return api.Schema{
		{num(), bytes(), nums(), one(1), many(2), one(0)},
		{many(0), num()},
		{bytes(), one(2)},
	}
}

// nest is a struct of type 0 of {num(), one(0), many(0)}, so many deep, which goes on by One or by Many as the bits of ways tell.
func nest(depth, ways int) api.Tree {
	if depth == 1 {
		return kids(n(1), kids(), kids())
	}
	inner := nest(depth-1, ways/2)
	if ways%2 == 0 {
		return kids(n(0), kids(inner), kids())
	}
	return kids(n(0), kids(), kids(inner))
}

func nestSchema() api.Schema { return api.Schema{{num(), one(0), many(0)}} }

// value is a schema, a type of it, and a right struct of that.
type value struct {
	s api.Schema
	t int
	v api.Tree
}

// flat are the broad schema's structs without structs in them.
func flat() []api.Tree {
	return []api.Tree{
		kids(n(7), text("seven"), row(7, 77), kids(), kids(), kids()),
		kids(kids(), n(math.MaxUint64)),
		kids(text(""), kids()),
	}
}

// rights are right structs: of each kind, at each limit, and structs within structs.
func rights() []value {
	f := flat()
	two := kids(text("two"), kids(f[2]))
	mixed := kids(n(0), text("\x00\xff"), row(0), kids(kids(kids(f[0], f[0]), n(1))), kids(two, f[2], two), kids(f[0]))
	all := []value{
		{api.Schema{{num()}}, 0, kids(n(0))},
		{api.Schema{{num()}}, 0, kids(n(math.MaxUint64))},
		{api.Schema{{bytes()}}, 0, kids(text(""))},
		{api.Schema{{bytes()}}, 0, kids(text(strings.Repeat("é", 20)))},
		{api.Schema{{nums()}}, 0, kids(row())},
		{api.Schema{{nums()}}, 0, kids(api.Tree{Nums: make([]uint64, 12)})},
		{api.Schema{{one(0)}}, 0, kids(kids())},
		{api.Schema{{one(0)}}, 0, kids(kids(kids(kids(kids(kids(kids(kids(kids(kids())))))))))},
		{api.Schema{{many(1)}, {num()}}, 0, kids(kids(times(12, kids(n(3)))...))},
		{api.Schema{{many(1)}, {num()}}, 1, kids(n(3))},
		{api.Schema{{num(), nums()}}, 0, kids(n(7), row(5, 6))},
		{slices.Repeat(api.Schema{{nums(), nums(), nums(), nums(), nums(), nums()}}, 8), 7, kids(times(6, row(1, 2, 3))...)},
		{broad(), 0, mixed},
		{broad(), 0, kids(n(1), text("deep"), row(), kids(), kids(), kids(mixed))},
		{broad(), 1, kids(kids(f[0], mixed), n(9))},
		{broad(), 2, two},
	}
	for t, v := range f {
		all = append(all, value{broad(), t, v})
	}
	for ways := range 16 {
		for depth := 1; depth <= 5; depth++ {
			all = append(all, value{nestSchema(), 0, nest(depth, ways)})
		}
	}
	return all
}

// copied is v, in memory of its own.
func copied(v api.Tree) api.Tree {
	v.Nums = slices.Clone(v.Nums)
	v.Kids = slices.Clone(v.Kids)
	for i := range v.Kids {
		v.Kids[i] = copied(v.Kids[i])
	}
	return v
}

// equal asks whether two trees are the same, the difference of nil and empty put aside.
func equal(a, b api.Tree) bool {
	if a.Num != b.Num || a.Bytes != b.Bytes || !slices.Equal(a.Nums, b.Nums) || len(a.Kids) != len(b.Kids) {
		return false
	}
	for i := range a.Kids {
		if !equal(a.Kids[i], b.Kids[i]) {
			return false
		}
	}
	return true
}

// nodes are all trees within v, v itself first, so that each can be changed where it is.
func nodes(v *api.Tree) []*api.Tree {
	all := []*api.Tree{v}
	for i := range v.Kids {
		all = append(all, nodes(&v.Kids[i])...)
	}
	return all
}

// bends are the ways in which a tree is changed in one place; each leaves it as it is, or makes it another one.
func bends() []func(v *api.Tree) {
	cut := func(v *api.Tree, count int) { v.Kids = v.Kids[:max(0, len(v.Kids)-count)] }
	grow := func(v *api.Tree, more ...api.Tree) { v.Kids = append(slices.Clip(v.Kids), more...) }
	return []func(v *api.Tree){
		func(v *api.Tree) { v.Num = 1 },
		func(v *api.Tree) { v.Num = 1 << 63 },
		func(v *api.Tree) { v.Num = 0 },
		func(v *api.Tree) { v.Bytes = "\x00" },
		func(v *api.Tree) { v.Bytes = "" },
		func(v *api.Tree) { v.Bytes = strings.Repeat("b", 40) },
		func(v *api.Tree) { v.Bytes = strings.Repeat("b", 41) },
		func(v *api.Tree) { v.Nums = []uint64{0} },
		func(v *api.Tree) { v.Nums = []uint64{} },
		func(v *api.Tree) { v.Nums = make([]uint64, 12) },
		func(v *api.Tree) { v.Nums = make([]uint64, 13) },
		func(v *api.Tree) { v.Kids = nil },
		func(v *api.Tree) { v.Kids = []api.Tree{} },
		func(v *api.Tree) { cut(v, 1) },
		func(v *api.Tree) { grow(v, api.Tree{}) },
		func(v *api.Tree) { grow(v, v.Kids...) },
		func(v *api.Tree) { grow(v, flat()...) },
		func(v *api.Tree) { v.Kids = times(12, kids(n(1))) },
		func(v *api.Tree) { v.Kids = times(13, kids(n(1))) },
		func(v *api.Tree) { v.Kids = []api.Tree{nest(5, 5)} },
		func(v *api.Tree) { v.Kids = []api.Tree{nest(6, 9)} },
		func(v *api.Tree) { slices.Reverse(v.Kids) },
	}
}

// bent are the value's tree, changed in each place in each way.
func bent(v api.Tree) []api.Tree {
	all := []api.Tree{v}
	for i := range nodes(&v) {
		for _, bend := range bends() {
			out := copied(v)
			bend(nodes(&out)[i])
			all = append(all, out)
		}
	}
	return all
}

// wrongSchemas are schemas that are not right.
func wrongSchemas() []api.Schema {
	return []api.Schema{nil, {}, {nil}, {{}}, {{num()}, nil}, {{num()}, {}}, {{{Kind: 0}}}, {{{Kind: 6}}}, {{{Kind: -1}}},
		{{{Kind: api.Num, Type: 1}}, {num()}}, {{one(1)}}, {{many(-1)}}, {slices.Repeat([]api.Field{num()}, 7)},
		slices.Repeat(api.Schema{{num()}}, 9)}
}

// hasOnly is the chapter's "has X alone": a tree, without X, is empty.
func hasOnly(v api.Tree, without func(v *api.Tree)) bool {
	without(&v)
	return v.Num == 0 && len(v.Bytes) == 0 && len(v.Nums) == 0 && len(v.Kids) == 0
}

func noNum(v *api.Tree)   { v.Num = 0 }
func noBytes(v *api.Tree) { v.Bytes = "" }
func noNums(v *api.Tree)  { v.Nums = nil }
func noKids(v *api.Tree)  { v.Kids = nil }

// troubles are all troubles of a struct, of a right schema, in the order in which they are found; what lies in a wrong one is put aside.
func troubles(s api.Schema, t int, v api.Tree, depth int) []api.Errno {
	if depth > 5 {
		return []api.Errno{16}
	}
	if !hasOnly(v, noKids) || len(v.Kids) != len(s[t]) {
		return []api.Errno{24}
	}
	var all []api.Errno
	for i, f := range s[t] {
		field := v.Kids[i]
		right := false
		switch f.Kind {
		case 1:
			right = hasOnly(field, noNum)
		case 2:
			right = hasOnly(field, noBytes) && len(field.Bytes) <= 40
		case 3:
			right = hasOnly(field, noNums) && len(field.Nums) <= 12
		case 4:
			right = hasOnly(field, noKids) && len(field.Kids) <= 1
		case 5:
			right = hasOnly(field, noKids) && len(field.Kids) <= 12
		}
		if !right {
			all = append(all, 24)
			continue
		}
		for _, inner := range field.Kids {
			all = append(all, troubles(s, f.Type, inner, depth+1)...)
		}
	}
	return all
}

// firstTrouble is what Check must tell, of a right schema.
func firstTrouble(s api.Schema, t int, v api.Tree) error {
	if t < 0 || t >= len(s) {
		return cause.New(api.ErrArg)
	}
	if all := troubles(s, t, v, 1); len(all) > 0 {
		return cause.New(all[0])
	}
	return nil
}

// P6.1: checked.

func checkCheck(t *testing.T, c value) {
	t.Helper()
	before := copied(c.v)
	if got, want := tree.Check(c.s, c.t, c.v), firstTrouble(c.s, c.t, c.v); got != want {
		t.Fatalf("Check(%v, %d, %v): %v, want %v", c.s, c.t, c.v, got, want)
	}
	if !equal(before, c.v) {
		t.Fatalf("Check changed %v to %v", before, c.v)
	}
}

func TestCheckOfRightOnes(t *testing.T) {
	for _, c := range rights() {
		if err := tree.Check(c.s, c.t, c.v); err != nil {
			t.Errorf("Check(%v, %d, %v): %v, want nothing", c.s, c.t, c.v, err)
		}
	}
}

// The structs, held against types that are not theirs, too.
func TestCheckOfBentOnes(t *testing.T) {
	told := map[api.Errno]int{}
	for _, c := range rights() {
		for _, v := range bent(c.v) {
			for other := range c.s {
				checkCheck(t, value{c.s, other, v})
			}
			told[cause.Top(tree.Check(c.s, c.t, v))]++
		}
	}
	for _, code := range []api.Errno{api.OK, api.ErrKind, api.ErrOver} {
		if told[code] < 500 {
			t.Errorf("%v was told %d times: too few to tell", code, told[code])
		}
	}
}

// Which of two is found first: each pair of places is changed, each of them so that it is of no kind, or too deep.
func TestCheckOfTwiceBentOnes(t *testing.T) {
	f := flat()
	two := kids(text("t"), kids(f[2]))
	turns := []func(v *api.Tree){
		func(v *api.Tree) { v.Num, v.Nums = 1, []uint64{1} },
		func(v *api.Tree) { v.Kids = v.Kids[:max(0, len(v.Kids)-1)] },
		func(v *api.Tree) { v.Kids = []api.Tree{nest(4, 5)} },
		func(v *api.Tree) { v.Kids = []api.Tree{nest(6, 5)} },
		func(v *api.Tree) { v.Kids = times(13, nest(6, 5)) },
	}
	for _, c := range []value{
		{broad(), 0, kids(n(0), text(""), row(), kids(kids(kids(f[0]), n(1))), kids(two, f[2]), kids())},
		{nestSchema(), 0, kids(n(1), kids(nest(4, 5)), kids(nest(4, 2), nest(2, 1)))},
	} {
		told := map[api.Errno]int{}
		for j := range nodes(&c.v) {
			for i := range j {
				for k := range len(turns) * len(turns) {
					out := copied(c.v)
					places := nodes(&out)
					turns[k/len(turns)](places[j])
					turns[k%len(turns)](places[i])
					checkCheck(t, value{c.s, c.t, out})
					told[cause.Top(tree.Check(c.s, c.t, out))]++
				}
			}
		}
		if told[api.ErrKind] < 500 {
			t.Errorf("ErrKind was told %d times: too few to tell", told[api.ErrKind])
		}
		if len(c.s) == 1 && told[api.ErrOver] < 500 {
			t.Errorf("ErrOver was told %d times: too few to tell", told[api.ErrOver])
		}
	}
}

func TestCheckOfArguments(t *testing.T) {
	arg := cause.New(api.ErrArg)
	trees := []api.Tree{{}, kids(n(1)), kids(n(1), n(2)), n(1), nest(6, 0)}
	for _, v := range trees {
		for _, s := range wrongSchemas() {
			for _, ty := range []int{-1, 0, 1, 8} {
				if err := tree.Check(s, ty, v); err != arg {
					t.Errorf("Check(%v, %d, %v): %v, want ErrArg", s, ty, v, err)
				}
			}
		}
		for _, ty := range []int{-1, 2, 3, 8, math.MinInt, math.MaxInt, 1 << 32, -1 << 32} {
			if err := tree.Check(api.Schema{{num()}, {num()}}, ty, v); err != arg {
				t.Errorf("Check of type %d, %v: %v, want ErrArg", ty, v, err)
			}
		}
	}
}

func TestCheckByHand(t *testing.T) {
	over, kind := cause.New(api.ErrOver), cause.New(api.ErrKind)
	s := nestSchema()
	deep := func(v api.Tree) api.Tree { return kids(n(0), kids(v), kids()) }
	garbage := api.Tree{Num: 1, Bytes: "x", Nums: []uint64{1}, Kids: []api.Tree{{}}}
	within := func(v api.Tree) api.Tree { return deep(deep(deep(deep(v)))) }
	leaf, long := nest(1, 0), strings.Repeat("x", 41)
	for _, c := range []struct {
		what string
		s    api.Schema
		v    api.Tree
		want error
	}{
		{"nothing", s, api.Tree{}, kind},
		{"a field too few", s, kids(n(1), kids()), kind},
		{"a field too many", s, kids(n(1), kids(), kids(), kids()), kind},
		{"a struct with a number", s, api.Tree{Num: 1, Kids: leaf.Kids}, kind},
		{"a struct with bytes", s, api.Tree{Bytes: "\x00", Kids: leaf.Kids}, kind},
		{"a struct with numbers", s, api.Tree{Nums: []uint64{0}, Kids: leaf.Kids}, kind},
		{"empty rows are none", s, api.Tree{Nums: []uint64{}, Kids: leaf.Kids}, nil},
		{"five deep", s, within(leaf), nil},
		{"six deep", s, within(deep(leaf)), over},
		{"six deep, by Many", s, kids(n(0), kids(), kids(leaf, within(leaf))), over},
		{"what is too deep isn't looked at", s, within(deep(garbage)), over},
		{"what is at the limit is", s, within(garbage), kind},
		{"nothing, too deep", s, within(deep(api.Tree{})), over},
		{"a number's field wrong, ahead of what's too deep", s, kids(text("x"), kids(within(leaf)), kids()), kind},
		{"what's too deep, ahead of the next field", s, kids(n(0), kids(within(leaf)), n(1)), over},
		{"how many fields, ahead of what's too deep", s, kids(n(0), kids(within(leaf))), kind},
		{"two of One, ahead of what's too deep", s, kids(n(0), kids(within(leaf), leaf), kids()), kind},
		{"13 of Many, ahead of what's too deep", s, kids(n(0), kids(), kids(times(13, within(leaf))...)), kind},
		{"12 of Many", s, kids(n(0), kids(), kids(times(12, leaf)...)), nil},
		{"a struct, wholly, ahead of the next one", s, kids(n(0), kids(), kids(within(leaf), garbage)), over},
		{"a wrong struct, ahead of the next one", s, kids(n(0), kids(), kids(garbage, within(leaf))), kind},
		{"the first one's last field, ahead of the next one", s, kids(n(0), kids(), kids(kids(n(0), kids(), n(1)), within(leaf))), kind},
		{"a wrong field beside what it has", s, kids(api.Tree{Num: 1, Kids: []api.Tree{leaf}}, kids(), kids()), kind},
		{"40 bytes", api.Schema{{bytes()}}, kids(text(long[1:])), nil},
		{"41 bytes", api.Schema{{bytes()}}, kids(text(long)), kind},
		{"40 bytes, 14 characters", api.Schema{{bytes()}}, kids(text(strings.Repeat("€", 14)[2:])), nil},
		{"42 bytes, 14 characters", api.Schema{{bytes()}}, kids(text(strings.Repeat("€", 14))), kind},
		{"12 numbers", api.Schema{{nums()}}, kids(api.Tree{Nums: make([]uint64, 12)}), nil},
		{"13 numbers", api.Schema{{nums()}}, kids(api.Tree{Nums: make([]uint64, 13)}), kind},
		{"an inner struct of the outer type", api.Schema{{one(1)}, {num()}}, kids(kids(kids(kids(kids(n(1)))))), kind},
		{"an inner struct of its own type", api.Schema{{one(1)}, {num()}}, kids(kids(kids(n(1)))), nil},
		{"an empty field of Num is 0", api.Schema{{num()}}, kids(kids()), nil},
	} {
		if got := tree.Check(c.s, 0, c.v); got != c.want {
			t.Errorf("%s: %v, want %v", c.what, got, c.want)
		}
		checkCheck(t, value{c.s, 0, c.v})
	}
}

// A tree that has itself among its Kids is deeper than all limits.
func TestCheckOfEndlessOnes(t *testing.T) {
	self := kids(n(0), kids(api.Tree{}), kids())
	self.Kids[1].Kids[0] = self
	if err := tree.Check(nestSchema(), 0, self); err != cause.New(api.ErrOver) {
		t.Errorf("Check of a struct within itself: %v, want ErrOver", err)
	}
	rows := make([]api.Tree, 1<<20)
	if err := tree.Check(nestSchema(), 0, api.Tree{Kids: rows}); err != cause.New(api.ErrKind) {
		t.Errorf("Check of many Kids: %v, want ErrKind", err)
	}
}
