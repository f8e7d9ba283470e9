package schema_test

import (
	"math"
	"slices"
	"testing"

	"intaglio/api"
	"intaglio/cause"
	"intaglio/schema"
)

// isRight is the chapter's own words.
func isRight(s api.Schema) bool {
	within := func(n, least, most int) bool { return least <= n && n <= most }
	right := within(len(s), 1, 8)
	for _, fields := range s {
		right = right && within(len(fields), 1, 6)
		for _, f := range fields {
			right = right && within(f.Kind, 1, 5)
			if f.Kind == 4 || f.Kind == 5 {
				right = right && within(f.Type, 0, len(s)-1)
			} else {
				right = right && f.Type == 0
			}
		}
	}
	return right
}

func num() api.Field       { return api.Field{Kind: api.Num} }
func bytes() api.Field     { return api.Field{Kind: api.Bytes} }
func nums() api.Field      { return api.Field{Kind: api.Nums} }
func one(t int) api.Field  { return api.Field{Kind: api.One, Type: t} }
func many(t int) api.Field { return api.Field{Kind: api.Many, Type: t} }

// chain is a schema of n types, each of which has a struct of the next one, but the last.
func chain(n int) api.Schema {
	var s api.Schema
	for t := 1; t < n; t++ {
		s = append(s, []api.Field{num(), one(t)})
	}
	return append(s, []api.Field{bytes()})
}

// greatest has as many types as there may be, each of as many fields, of all kinds and types.
func greatest() api.Schema {
	s := make(api.Schema, 8)
	for t := range s {
		s[t] = []api.Field{many(7 - t), num(), one(t), nums(), bytes(), many(7)}
	}
	return s
}

// rights are schemas that are right.
func rights() []api.Schema {
	return []api.Schema{
		{{num()}}, {{bytes()}}, {{nums()}}, {{one(0)}}, {{many(0)}},
		{{num(), many(0)}},
		{{num(), one(1)}, {bytes(), many(2)}, {nums()}},
		{{one(1)}, {one(0)}},
		{{nums(), nums(), nums(), nums(), nums(), nums()}},
		chain(2), chain(8), greatest(),
	}
}

// edges are numbers at the limits of kinds and types, and far beyond, among them some that are like a right one in their lowest bits.
func edges() []int {
	return []int{-1, -2, -4, -8, 0, 1, 2, 3, 4, 5, 6, 7, 8, 9, 12, 13, 64, 68, 1 << 32, 1<<32 + 4, 1<<61 + 5,
		math.MinInt, math.MinInt + 1, math.MinInt + 4, math.MaxInt, math.MaxInt - 2}
}

func clone(s api.Schema) api.Schema {
	if s == nil {
		return nil
	}
	out := make(api.Schema, len(s))
	for t := range s {
		out[t] = slices.Clone(s[t])
	}
	return out
}

func equal(a, b api.Schema) bool { return slices.EqualFunc(a, b, slices.Equal[[]api.Field]) }

// bent are the right schemas with one number replaced by an edge, with fewer or more fields in one type, and with fewer or more types.
func bent() []api.Schema {
	var all []api.Schema
	for _, s := range rights() {
		all = append(all, s)
		for t := range s {
			all = append(all, bentType(s, t)...)
			all = append(all, clone(s[:t]), clone(s[t:]))
		}
		for n := 1; n <= 9; n++ {
			longer := clone(s)
			for range n {
				longer = append(longer, []api.Field{num()})
			}
			all = append(all, longer)
		}
	}
	return append(all, nil, api.Schema{}, api.Schema{nil}, api.Schema{{}}, api.Schema{{num()}, nil},
		make(api.Schema, 8), make(api.Schema, 9), make(api.Schema, 1<<20), api.Schema{make([]api.Field, 1<<20)})
}

func bentType(s api.Schema, t int) []api.Schema {
	var all []api.Schema
	with := func(fields []api.Field) {
		out := clone(s)
		out[t] = fields
		all = append(all, out)
	}
	for i := range s[t] {
		for _, n := range edges() {
			fields := slices.Clone(s[t])
			fields[i].Kind = n
			with(fields)
			fields = slices.Clone(s[t])
			fields[i].Type = n
			with(fields)
		}
		with(slices.Clone(s[t][:i]))
	}
	for n := 1; n <= 7; n++ {
		with(append(slices.Clone(s[t]), slices.Repeat([]api.Field{nums()}, n)...))
	}
	return all
}

// P5.1: checked.

func TestCheck(t *testing.T) {
	right := 0
	for _, s := range bent() {
		var want error
		if !isRight(s) {
			want = cause.New(api.ErrArg)
		} else {
			right++
		}
		before := clone(s)
		if got := schema.Check(s); got != want {
			t.Errorf("Check(%v): %v, want %v", short(s), got, want)
		}
		if !equal(s, before) {
			t.Errorf("Check changed %v to %v", short(before), short(s))
		}
	}
	if right < 100 || right > len(bent())-100 {
		t.Errorf("%d of %d schemas are right: too few of a kind to tell", right, len(bent()))
	}
}

// short is as much of a schema as is worth being told.
func short(s api.Schema) api.Schema { return s[:min(len(s), 10)] }

func TestRights(t *testing.T) {
	for _, s := range rights() {
		if err := schema.Check(s); err != nil {
			t.Errorf("Check(%v): %v, want nothing", s, err)
		}
	}
}

func TestWrongByHand(t *testing.T) {
	for what, s := range map[string]api.Schema{
		"nothing":                     nil,
		"no type":                     {},
		"nine types":                  slices.Repeat(api.Schema{{num()}}, 9),
		"a type without fields":       {{num()}, {}, {num()}},
		"a type that is nothing":      {{num()}, nil},
		"a type of seven fields":      {{num()}, slices.Repeat([]api.Field{num()}, 7)},
		"kind 0":                      {{num(), {Kind: 0}}},
		"kind 6":                      {{num(), {Kind: 6}}},
		"kind -1":                     {{{Kind: -1}}},
		"kind 5, and 2^32":            {{{Kind: 1<<32 + 5}}},
		"Num of a type that there is": {{{Kind: api.Num, Type: 1}}, {num()}},
		"Bytes of one":                {{{Kind: api.Bytes, Type: 1}}, {num()}},
		"Nums of one":                 {{{Kind: api.Nums, Type: 1}}, {num()}},
		"Num of type -1":              {{{Kind: api.Num, Type: -1}}},
		"One of type -1":              {{one(-1)}},
		"Many of type -1":             {{many(-1)}},
		"One of no type":              {{one(2)}, {num()}},
		"Many of no type":             {{num()}, {num(), many(2)}},
		"One of type 8":               append(chain(7), []api.Field{one(8)}),
		"Many of type 2^32":           {{many(1 << 32)}},
	} {
		if err := schema.Check(s); err != cause.New(api.ErrArg) {
			t.Errorf("%s: Check tells %v, want ErrArg", what, err)
		}
		if words := schema.Pack(s); len(words) != 0 {
			t.Errorf("%s: Pack tells %x, want nothing", what, words)
		}
		for n := range 10 {
			if d := schema.Deep(s, n); d != 0 {
				t.Errorf("%s: type %d is %d deep, want 0", what, n, d)
			}
		}
	}
}

// A trouble has the one code, and no word.
func TestTroubles(t *testing.T) {
	_, form := schema.Read(nil)
	for want, err := range map[api.Errno]error{api.ErrArg: schema.Check(nil), api.ErrForm: form} {
		if _, at := cause.Word(err); at || !slices.Equal(cause.Codes(err), []api.Errno{want}) {
			t.Errorf("the trouble is %q, want error %d alone", cause.Text(err), int(want))
		}
	}
}

// P5.2: told.

func TestFieldsKindType(t *testing.T) {
	far := []int{math.MinInt, -1 << 32, -1, 1 << 31, 1 << 32, 1<<32 + 1, math.MaxInt}
	for n := range 10 {
		far = append(far, n)
	}
	for _, s := range bent() {
		for _, n := range far {
			var fields []api.Field
			if n >= 0 && n < len(s) {
				fields = s[n]
			}
			if got := schema.Fields(s, n); got != len(fields) {
				t.Errorf("Fields(%v, %d): %d, want %d", short(s), n, got, len(fields))
			}
			for _, i := range far {
				var want api.Field
				if i >= 0 && i < len(fields) {
					want = fields[i]
				}
				if kind, typ := schema.Kind(s, n, i), schema.Type(s, n, i); kind != want.Kind || typ != want.Type {
					t.Errorf("%v, type %d, field %d: %d of %d, want %+v", short(s), n, i, kind, typ, want)
				}
			}
		}
	}
}

// Of any schema: numbers that may not be are told as they are.
func TestToldOfWrongOnes(t *testing.T) {
	s := api.Schema{nil, {{Kind: -7, Type: math.MaxInt}, {Kind: math.MinInt, Type: -3}}}
	if schema.Fields(s, 0) != 0 || schema.Fields(s, 1) != 2 || schema.Fields(s, 2) != 0 || schema.Fields(nil, 0) != 0 {
		t.Error("Fields of a wrong schema")
	}
	if schema.Kind(s, 1, 0) != -7 || schema.Type(s, 1, 0) != math.MaxInt || schema.Kind(s, 1, 1) != math.MinInt || schema.Type(s, 1, 1) != -3 {
		t.Error("Kind or Type of a wrong schema's field")
	}
	if schema.Kind(s, 0, 0) != 0 || schema.Type(nil, 0, 0) != 0 {
		t.Error("Kind or Type of no field")
	}
	long := make(api.Schema, 1<<20)
	long[1<<20-1] = slices.Repeat([]api.Field{{Kind: 9, Type: 9}}, 1<<20)
	if schema.Fields(long, 1<<20-1) != 1<<20 || schema.Kind(long, 1<<20-1, 1<<20-1) != 9 || schema.Type(long, 1<<20-1, 1<<20) != 0 {
		t.Error("what is told of a long schema")
	}
}
