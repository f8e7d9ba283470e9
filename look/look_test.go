package look_test

import (
	"errors"
	"math"
	"slices"
	"testing"

	"intaglio/api"
	"intaglio/cause"
	"intaglio/look"
	"intaglio/schema"
	"intaglio/tree"
	"intaglio/valid"
)

// decoded is the struct of right words, spelled out another way: what is still to be decoded lies in a row.
func decoded(s api.Schema, words []uint64) api.Tree {
	type todo struct {
		v     *api.Tree
		t     int
		words []uint64
	}
	var root api.Tree
	for rest := []todo{{&root, int(words[0] >> 32), words[1:]}}; len(rest) > 0; rest = rest[1:] {
		now := rest[0]
		now.v.Kids = make([]api.Tree, len(s[now.t]))
		for i, f := range s[now.t] {
			field, word := &now.v.Kids[i], now.words[i]
			if f.Kind == 1 {
				field.Num = word
				continue
			}
			if word == 0 {
				continue
			}
			behind, many := now.words[i:][word%(1<<32):], word/(1<<32)
			if f.Kind == 2 {
				for k := range many {
					field.Bytes += string([]byte{byte(behind[k/8] / (1 << (8 * (k % 8))))})
				}
			} else if f.Kind == 3 {
				field.Nums = slices.Clone(behind[:many])
			} else {
				field.Kids = make([]api.Tree, many)
				for k := range field.Kids {
					rest = append(rest, todo{&field.Kids[k], f.Type, behind[k*len(s[f.Type]):]})
				}
			}
		}
	}
	return root
}

// isNothing asks whether a tree is the zero value.
func isNothing(v api.Tree) bool {
	return v.Num == 0 && v.Bytes == "" && v.Nums == nil && v.Kids == nil
}

// checkDecode holds Decode of any words against the chapter, and tells the code.
func checkDecode(t *testing.T, s api.Schema, words []uint64) api.Errno {
	t.Helper()
	before, types := slices.Clone(words), schema.Pack(s)
	want := valid.Check(s, words)
	ty, v, err := look.Decode(s, words)
	if err != want {
		t.Fatalf("Decode(%v, %x): %v, want %v", s, words, err, want)
	}
	if want != nil && (ty != 0 || !isNothing(v)) {
		t.Fatalf("Decode(%v, %x): %d, %v beside %v", s, words, ty, v, err)
	}
	if want == nil && (ty != int(words[0]>>32) || !tree.Same(v, decoded(s, words)) || tree.Check(s, ty, v) != nil) {
		t.Fatalf("Decode(%v, %x): %d, %v, want %v", s, words, ty, v, decoded(s, words))
	}
	if !slices.Equal(words, before) || !slices.Equal(schema.Pack(s), types) {
		t.Fatalf("Decode changed %x of %v to %x", before, s, words)
	}
	return cause.Top(err)
}

// atLeast asks whether each of these codes was told often enough for the test to mean something.
func atLeast(t *testing.T, codes map[api.Errno]int, least int, wanted ...api.Errno) {
	t.Helper()
	for _, code := range wanted {
		if codes[code] < least {
			t.Errorf("%v was told %d times: too few to tell", code, codes[code])
		}
	}
}

func TestExample(t *testing.T) {
	s, words := api.Schema{{num(), nums()}}, []uint64{5, 7, 0x200000001, 5, 6}
	ty, v, err := look.Decode(s, words)
	if ty != 0 || err != nil || !tree.Same(v, kids(n(7), row(5, 6))) {
		t.Errorf("Decode: %d, %v, %v", ty, v, err)
	}
	if got, err := look.Path(s, words, 1, 0); got != 5 || err != nil {
		t.Errorf("Path of 1, 0: %d, %v, want 5", got, err)
	}
	w := look.Start(s, 0, 1, 1, 0)
	for _, want := range []int{2, 3} {
		if i, more := w.Next(); i != want || !more {
			t.Fatalf("Next: %d, %v, want %d", i, more, want)
		}
		w.Give(words[want])
	}
	if i, more := w.Next(); i != 0 || more {
		t.Errorf("Next behind the end: %d, %v", i, more)
	}
	if got, err := w.Told(); got != 5 || err != nil {
		t.Errorf("Told: %d, %v, want 5", got, err)
	}
}

// P9.1: decoded.

// P9.4: what was built is decoded.
func TestBuiltIsDecoded(t *testing.T) {
	longest, deepest := 0, 0
	for _, m := range messages(t, 5000) {
		ty, v, err := look.Decode(m.s, m.words)
		if ty != m.t || err != nil || !tree.Same(v, m.v) {
			t.Fatalf("Decode(%v, %x): %d, %v, %v, want %d, %v", m.s, m.words, ty, v, err, m.t, m.v)
		}
		checkDecode(t, m.s, m.words)
		longest, deepest = max(longest, len(m.words)), max(deepest, tree.Deep(v))
	}
	if longest < 190 || deepest != 5 {
		t.Errorf("at most %d words, and %d deep: too few to tell", longest, deepest)
	}
}

func TestDecodeByHand(t *testing.T) {
	two := api.Schema{{nums(), nums()}, {many(2), one(2)}, {num(), bytes()}}
	for _, c := range []struct {
		what    string
		s       api.Schema
		words   []uint64
		want    api.Tree
		trouble error
	}{
		{"two references to the same numbers", two, msg(0, ref(2, 1), ref(1, 1), 5, 6), kids(row(5), row(5)), nil},
		{"numbers behind others that nothing refers to", two, msg(0, ref(4, 1), 0, 9, 9, 5), kids(row(5), row()), nil},
		{"numbers that are the struct's own words", two, msg(0, ref(1, 1), 0, 0), kids(row(0), row()), nil},
		{"the second field's lie ahead of the first one's", two, msg(0, ref(3, 1), ref(1, 1), 6, 5), kids(row(5), row(6)), nil},
		{"structs of two fields, and one among them", two, msg(1, ref(2, 2), ref(3, 1), 1, 0, 3, ref(1, 3), 0x636261, 0, 0, 0),
			kids(kids(kids(n(1), text("")), kids(n(3), text("abc"))), kids(kids(n(3), text("abc")))), nil},
		{"a wrong schema", api.Schema{{one(1)}}, msg(0, 0), api.Tree{}, cause.New(api.ErrArg)},
		{"no schema, and no words", nil, nil, api.Tree{}, cause.New(api.ErrArg)},
		{"no words", two, nil, api.Tree{}, cause.New(api.ErrSize)},
		{"201 words", api.Schema{{num()}}, msg(0, make([]uint64, 200)...), api.Tree{}, cause.New(api.ErrSize)},
		{"200 words", api.Schema{{num()}}, msg(0, make([]uint64, 199)...), kids(n(0)), nil},
		{"no such type", two, msg(3, 0, 0), api.Tree{}, cause.At(cause.New(api.ErrForm), 0)},
		{"an offset 0", two, msg(0, 0, ref(0, 1)), api.Tree{}, cause.At(cause.New(api.ErrForm), 2)},
		{"words that there are not", two, msg(0, ref(2, 2), 0, 5), api.Tree{}, cause.At(cause.New(api.ErrRange), 1)},
		{"claimed too often", two, msg(0, ref(2, 1), ref(1, 1), 5), api.Tree{}, cause.At(cause.New(api.ErrOver), 2)},
		{"six deep", api.Schema{{one(0)}}, msg(0, ref(1, 1), ref(1, 1), ref(1, 1), ref(1, 1), ref(1, 1), 0), api.Tree{}, cause.At(cause.New(api.ErrOver), 5)},
	} {
		_, v, err := look.Decode(c.s, c.words)
		if err != c.trouble || !tree.Same(v, c.want) {
			t.Errorf("%s: %v, %v, want %v, %v", c.what, v, err, c.want, c.trouble)
		}
		checkDecode(t, c.s, c.words)
		if got, err := look.Path(c.s, c.words); got != 0 || err == nil || c.trouble != nil && err != c.trouble {
			t.Errorf("%s: Path of no numbers: %d, %v", c.what, got, err)
		}
	}
}

func TestDecodeOfSchemasThatAreNotRight(t *testing.T) {
	for _, s := range wrongSchemas() {
		for _, words := range [][]uint64{nil, {}, {0}, msg(0, 0), msg(8, 0), make([]uint64, 201)} {
			if code := checkDecode(t, s, words); code != api.ErrArg {
				t.Errorf("Decode(%v, %x): %v", s, words, code)
			}
			checkPath(t, s, words)
		}
	}
}

func TestDecodeOfBentMessages(t *testing.T) {
	codes := map[api.Errno]int{}
	for _, m := range bent(messages(t, 400)) {
		codes[checkDecode(t, m.s, m.words)]++
	}
	atLeast(t, codes, 1000, api.OK, api.ErrForm, api.ErrOver, api.ErrRange, api.ErrSize)
}

// Words of which nothing is known but, of some, the first one.
func TestDecodeOfAnyWords(t *testing.T) {
	codes := map[api.Errno]int{}
	d := &drawer{}
	for range 40000 {
		s := d.schema()
		words := make([]uint64, 1+min(d.below(210), d.below(210)))
		for i := range words {
			// Mostly a reference to little, or to nothing, so that much is looked at ahead of a trouble.
			words[i] = []uint64{d.word() >> d.below(65), ref(uint64(d.below(60)), uint64(d.below(14))), ref(uint64(1+d.below(20)), 1), 0}[min(d.below(24), 2+d.below(2))]
		}
		codes[checkDecode(t, s, words)]++
		words[0] = ref(uint64(len(words)), uint64(d.below(len(s))))
		codes[checkDecode(t, s, words)]++
	}
	atLeast(t, codes, 500, api.OK, api.ErrForm, api.ErrOver, api.ErrRange)
	atLeast(t, codes, 100, api.ErrSize)
}

// checkPath holds Path against valid.Check and tree.Get.
func checkPath(t *testing.T, s api.Schema, words []uint64, path ...int) {
	t.Helper()
	before, gone := slices.Clone(words), slices.Clone(path)
	want, wantErr := uint64(0), valid.Check(s, words)
	if wantErr == nil {
		want, wantErr = tree.Get(s, int(words[0]>>32), decoded(s, words), path...)
	}
	got, err := look.Path(s, words, path...)
	if got != want || err != wantErr {
		t.Fatalf("Path(%v, %x, %v): %d, %v, want %d, %v", s, words, path, got, err, want, wantErr)
	}
	if !slices.Equal(words, before) || !slices.Equal(path, gone) {
		t.Fatalf("Path changed %x, %v", before, gone)
	}
}

func TestPath(t *testing.T) {
	for _, m := range messages(t, 40) {
		for _, path := range paths(m.s, m.t, m.v) {
			checkPath(t, m.s, m.words, path...)
		}
	}
	for _, m := range bent(messages(t, 20)) {
		for _, path := range [][]int{nil, {0}, {-1}, {9}, {0, 0}, {1, 0, 1}} {
			checkPath(t, m.s, m.words, path...)
		}
	}
}

// Told as text: of wrong words the trouble is valid's, of right ones tree's.
func TestTexts(t *testing.T) {
	s := api.Schema{{num(), nums()}}
	for _, c := range []struct {
		words []uint64
		path  []int
		want  string
	}{
		{[]uint64{5, 7, ref(1, 2), 5, 6}, []int{1, 1}, ""},
		{[]uint64{5, 7, ref(1, 2), 5, 6}, nil, "intaglio: error 1"},
		{[]uint64{5, 7, ref(1, 2), 5, 6}, []int{1, 2}, "intaglio: error 12"},
		{[]uint64{5, 7, ref(1, 2), 5, 6}, []int{0, 0}, "intaglio: error 24"},
		{[]uint64{4, 7, ref(1, 2), 5}, []int{0}, "word 2: intaglio: error 23"},
		{[]uint64{4, 7, ref(1, 2), 5}, nil, "word 2: intaglio: error 23"},
	} {
		_, err := look.Path(s, c.words, c.path...)
		if got := cause.Text(err); got != c.want {
			t.Errorf("Path(%x, %v): %q, want %q", c.words, c.path, got, c.want)
		}
	}
	_, err := look.Start(s, 0, 1, 0).Told()
	if got := cause.Text(err); got != "intaglio: error 13" || !errors.Is(err, api.ErrState) {
		t.Errorf("Told ahead of the end: %q", got)
	}
}

// R3: what was decoded is the caller's, and stays what it was; no two rows of it are one.
func TestDecodedIsTheCallers(t *testing.T) {
	for _, m := range messages(t, 300) {
		words := slices.Clone(m.words)
		_, first, _ := look.Decode(m.s, words)
		_, second, _ := look.Decode(m.s, words)
		for i := range words {
			words[i] = ^words[i]
		}
		if !tree.Same(first, m.v) {
			t.Fatalf("Decode(%v, %x): changed with the words", m.s, m.words)
		}
		for i := range words {
			words[i] = ^words[i]
		}
		spoil(&first)
		if !tree.Same(second, m.v) || !slices.Equal(words, m.words) {
			t.Fatalf("Decode(%v, %x): what was told is shared", m.s, m.words)
		}
	}
	s := api.Schema{{nums(), nums(), many(1), many(1)}, {num(), nums()}}
	words := msg(0, ref(4, 2), ref(3, 2), ref(4, 1), ref(3, 1), 7, 8, 5, ref(1, 1), 9, 0, 0, 0, 0, 0)
	want := kids(row(7, 8), row(7, 8), kids(kids(n(5), row(9))), kids(kids(n(5), row(9))))
	_, v, err := look.Decode(s, words)
	if err != nil || !tree.Same(v, want) {
		t.Fatalf("Decode(%v, %x): %v, %v, want %v", s, words, v, err, want)
	}
	for i := range v.Kids {
		_, v, _ = look.Decode(s, words)
		spoil(&v.Kids[i])
		v.Kids[i] = want.Kids[i]
		if !tree.Same(v, want) {
			t.Errorf("Decode(%v, %x): field %d shares what it has: %v", s, words, i, v)
		}
	}
}

// spoil changes all that a tree has, and what its rows have room for.
func spoil(v *api.Tree) {
	for i := range v.Kids {
		spoil(&v.Kids[i])
	}
	room := v.Kids[len(v.Kids):cap(v.Kids)]
	for i := range room {
		room[i].Num++
	}
	all := v.Nums[:cap(v.Nums)]
	for i := range all {
		all[i] = math.MaxUint64 - all[i]
	}
	v.Num++
	v.Bytes += "x"
}

// R4: the same calls have the same answers, whatever was asked meanwhile.
func TestAgain(t *testing.T) {
	all := messages(t, 200)
	first := make([]uint64, len(all))
	for i, m := range all {
		first[i], _ = look.Path(m.s, m.words, 0)
		look.Decode(m.s, m.words[1:])
	}
	for i, m := range all {
		if again, _ := look.Path(m.s, m.words, 0); again != first[i] {
			t.Fatalf("Path(%v, %x, 0): %d, and then %d", m.s, m.words, first[i], again)
		}
	}
}
