package cause_test

import (
	"errors"
	"math"
	"slices"
	"strconv"
	"testing"

	"intaglio/api"
	"intaglio/cause"
)

// told is all that the package tells of an error.
type told struct {
	codes     []api.Errno
	top, root api.Errno
	word      int
	at        bool
	text      string
}

func ask(err error) told {
	word, at := cause.Word(err)
	return told{cause.Codes(err), cause.Top(err), cause.Root(err), word, at, cause.Text(err)}
}

func (a told) same(b told) bool {
	return slices.Equal(a.codes, b.codes) && a.top == b.top && a.root == b.root && a.word == b.word && a.at == b.at && a.text == b.text
}

func check(t *testing.T, what string, err error, want told) {
	t.Helper()
	if got := ask(err); !got.same(want) {
		t.Errorf("%s: told %+v, want %+v", what, got, want)
	}
}

func codes(c ...api.Errno) []api.Errno { return c }

// P1.1: what New, Because and At make, and what they hand back as it is.

func TestNew(t *testing.T) {
	if err := cause.New(api.OK); err != nil {
		t.Errorf("New(OK): %v, want nothing", err)
	}
	for _, c := range []api.Errno{api.ErrArg, api.ErrKind, 2, -1, math.MaxInt, math.MinInt} {
		err := cause.New(c)
		if err == nil {
			t.Fatalf("New(%d): nothing", int(c))
		}
		check(t, "New", err, told{codes(c), c, c, 0, false, "intaglio: error " + strconv.Itoa(int(c))})
	}
}

func TestBecause(t *testing.T) {
	inner := cause.At(cause.New(api.ErrRange), 7)
	check(t, "code over a trouble", cause.Because(api.ErrGone, inner),
		told{codes(api.ErrGone, api.ErrRange), api.ErrGone, api.ErrRange, 7, true, "intaglio: error 22 because word 7: intaglio: error 23"})
	check(t, "code over itself", cause.Because(api.ErrGone, cause.New(api.ErrGone)),
		told{codes(api.ErrGone, api.ErrGone), api.ErrGone, api.ErrGone, 0, false, "intaglio: error 22 because intaglio: error 22"})
	check(t, "code over nothing", cause.Because(api.ErrGone, nil),
		told{codes(api.ErrGone), api.ErrGone, api.ErrGone, 0, false, "intaglio: error 22"})
	if got := cause.Because(api.ErrGone, nil); got != cause.New(api.ErrGone) {
		t.Errorf("code over nothing: %#v, want New's", got)
	}
	if got := cause.Because(api.OK, inner); got != inner {
		t.Errorf("OK over a trouble: %#v, want that trouble itself", got)
	}
	foreign := &plain{"x"}
	if got := cause.Because(api.OK, foreign); got != error(foreign) {
		t.Errorf("OK over another error: %#v, want that error itself", got)
	}
	if got := cause.Because(api.OK, nil); got != nil {
		t.Errorf("OK over nothing: %v, want nothing", got)
	}
}

func TestAt(t *testing.T) {
	for _, word := range []int{0, -1, 7, math.MaxInt, math.MinInt} {
		if err := cause.At(nil, word); err != nil {
			t.Errorf("word %d over nothing: %v, want nothing", word, err)
		}
		check(t, "at a word", cause.At(cause.New(api.ErrForm), word),
			told{codes(api.ErrForm), api.ErrForm, api.ErrForm, word, true, "word " + strconv.Itoa(word) + ": intaglio: error 10"})
	}
	check(t, "at two words", cause.At(cause.At(cause.New(api.ErrForm), -2), 9),
		told{codes(api.ErrForm), api.ErrForm, api.ErrForm, -2, true, "word 9: word -2: intaglio: error 10"})
}

// Troubles that are made alike are equal, whatever made them.
func TestEqual(t *testing.T) {
	make1 := func(word int) error {
		return cause.Because(api.ErrGone, cause.At(cause.Because(api.ErrArg, cause.New(api.ErrForm)), word))
	}
	if make1(3) != make1(3) || make1(3) == make1(4) {
		t.Error("troubles made alike differ, or others are equal")
	}
}

// P1.2: what is told.

func TestNothing(t *testing.T) {
	check(t, "nothing", nil, told{})
	if !cause.Has(nil, api.OK) || cause.Has(nil, api.ErrArg) || cause.Has(nil, -1) {
		t.Error("Has of nothing: OK alone is there")
	}
}

func TestHas(t *testing.T) {
	err := cause.At(cause.Because(api.ErrRetry, cause.At(cause.Because(api.ErrGone, cause.New(api.ErrRange)), 7)), 1)
	for _, c := range codes(api.ErrRetry, api.ErrGone, api.ErrRange) {
		if !cause.Has(err, c) {
			t.Errorf("Has(.., %d): false", int(c))
		}
	}
	for _, c := range codes(api.OK, api.ErrArg, 7, -22) {
		if cause.Has(err, c) {
			t.Errorf("Has(.., %d): true", int(c))
		}
	}
}

func TestInnermostWord(t *testing.T) {
	err := cause.At(cause.Because(api.ErrRetry, cause.At(cause.New(api.ErrRange), -7)), 1)
	if word, is := cause.Word(err); word != -7 || !is {
		t.Errorf("Word: %d, %v, want -7, true", word, is)
	}
	if word, is := cause.Word(cause.At(cause.New(api.ErrRange), 0)); word != 0 || !is {
		t.Errorf("Word: %d, %v, want 0, true", word, is)
	}
	if word, is := cause.Word(cause.Because(api.ErrRetry, cause.New(api.ErrRange))); word != 0 || is {
		t.Errorf("Word: %d, %v, want 0, false", word, is)
	}
}

// What is told is the caller's.
func TestCodesAreNew(t *testing.T) {
	err := cause.Because(api.ErrGone, cause.New(api.ErrRange))
	got := cause.Codes(err)
	got[0], got[1] = 0, 0
	if again := cause.Codes(err); !slices.Equal(again, codes(api.ErrGone, api.ErrRange)) {
		t.Errorf("Codes: %v behind a change of an earlier answer", again)
	}
}

// Section 'Words': the library finds the codes, wherever they are.
func TestLibraryFindsCodes(t *testing.T) {
	err := cause.At(cause.Because(api.ErrRetry, cause.Because(api.ErrGone, cause.At(cause.New(api.ErrRange), 7))), 1)
	for c := api.Errno(-1); c <= 25; c++ {
		want := c == api.ErrRetry || c == api.ErrGone || c == api.ErrRange
		if got := errors.Is(err, c); got != want {
			t.Errorf("errors.Is(.., %d): %v", int(c), got)
		}
	}
	var top api.Errno
	if !errors.As(err, &top) || top != api.ErrRetry {
		t.Errorf("errors.As: %d, want the topmost, 17", int(top))
	}
	if !errors.As(cause.New(api.ErrFull), &top) || top != api.ErrFull {
		t.Errorf("errors.As: %d, want 15", int(top))
	}
	var other *plain
	if errors.As(err, &other) {
		t.Error("errors.As finds what is not there")
	}
}

// Causes are wrapped as they are.
func TestLibraryFindsCauses(t *testing.T) {
	foreign := &plain{"x"}
	err := cause.Because(api.ErrGone, cause.At(foreign, 3))
	var found *plain
	if !errors.Is(err, foreign) || !errors.As(err, &found) || found != foreign {
		t.Error("the library does not find the cause")
	}
	inner := cause.At(foreign, 3)
	if errors.Unwrap(err) != inner || errors.Unwrap(inner) != error(foreign) {
		t.Error("a trouble does not unwrap to what it was made of")
	}
}

// P1.3: texts, and the document's example.
func TestText(t *testing.T) {
	for _, c := range []struct {
		err  error
		text string
	}{
		{nil, ""},
		{cause.New(api.ErrArg), "intaglio: error 1"},
		{cause.New(-40), "intaglio: error -40"},
		{cause.New(math.MinInt), "intaglio: error -9223372036854775808"},
		{cause.At(cause.New(api.ErrArg), -3), "word -3: intaglio: error 1"},
		{cause.At(cause.New(api.ErrArg), math.MinInt), "word -9223372036854775808: intaglio: error 1"},
		{cause.Because(api.ErrGone, cause.At(cause.New(api.ErrRange), 7)), "intaglio: error 22 because word 7: intaglio: error 23"},
		{cause.At(cause.Because(api.ErrGone, cause.New(api.ErrRange)), 7), "word 7: intaglio: error 22 because intaglio: error 23"},
		{cause.At(cause.At(cause.New(api.ErrArg), 2), 0), "word 0: word 2: intaglio: error 1"},
	} {
		if got := cause.Text(c.err); got != c.text {
			t.Errorf("Text: %q, want %q", got, c.text)
		}
		if c.err != nil && c.err.Error() != c.text {
			t.Errorf("Error: %q, want %q", c.err.Error(), c.text)
		}
	}
}

// spelled is a trouble, and what the document says of it, found without the package: by how it was made.
type spelled struct {
	err error
	told
}

func (s spelled) because(c api.Errno) spelled {
	out := spelled{cause.Because(c, s.err), s.told}
	if c == api.OK {
		return out
	}
	out.codes = append(codes(c), s.codes...)
	out.top = c
	text := "intaglio: error " + strconv.Itoa(int(c))
	if s.err == nil {
		out.root, out.text = c, text
		return out
	}
	out.text = text + " because " + s.text
	return out
}

func (s spelled) within(word int) spelled {
	out := spelled{cause.At(s.err, word), s.told}
	if s.err == nil {
		return out
	}
	if !s.at {
		out.word, out.at = word, true
	}
	out.text = "word " + strconv.Itoa(word) + ": " + s.text
	return out
}

// TestAllMade makes every trouble of up to five makings, and holds all that is told of it against how it was made.
func TestAllMade(t *testing.T) {
	all := []spelled{{}}
	for range 5 {
		var next []spelled
		for _, s := range all {
			for _, c := range codes(api.OK, api.ErrArg, api.ErrRange, -6) {
				next = append(next, s.because(c))
			}
			next = append(next, s.within(0), s.within(-5), s.within(12))
		}
		for _, s := range next {
			holdAgainst(t, s)
		}
		all = next
	}
}

func holdAgainst(t *testing.T, s spelled) {
	t.Helper()
	check(t, s.text, s.err, s.told)
	for _, c := range codes(api.OK, api.ErrArg, api.ErrRange, api.ErrFull, -6, -5, 12) {
		want := slices.Contains(s.codes, c) || s.err == nil && c == api.OK
		if got := cause.Has(s.err, c); got != want {
			t.Errorf("%s: Has %d: %v", s.text, int(c), got)
		}
		if s.err != nil && errors.Is(s.err, c) != want {
			t.Errorf("%s: errors.Is %d: not %v", s.text, int(c), want)
		}
	}
	var top api.Errno
	if found := errors.As(s.err, &top); found != (s.err != nil) || top != s.top {
		t.Errorf("%s: errors.As: %d, %v", s.text, int(top), found)
	}
}

// As deep as the document's limits allow.
func TestDeep(t *testing.T) {
	const levels = 1 << 16
	err := cause.New(api.ErrRange)
	for i := range levels {
		err = cause.Because(api.ErrGone, cause.At(err, i))
	}
	if got := len(cause.Codes(err)); got != levels+1 {
		t.Errorf("%d codes, want %d", got, levels+1)
	}
	if word, is := cause.Word(err); word != 0 || !is {
		t.Errorf("Word: %d, %v", word, is)
	}
	if cause.Top(err) != api.ErrGone || cause.Root(err) != api.ErrRange || !cause.Has(err, api.ErrRange) || cause.Has(err, api.ErrArg) {
		t.Error("codes of a deep trouble are not told")
	}
	if got := len(cause.Text(err)); got < levels*len("intaglio: error 22 because word 1: ") {
		t.Errorf("a text of %d bytes", got)
	}
}
