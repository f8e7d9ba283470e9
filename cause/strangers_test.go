package cause_test

import (
	"errors"
	"fmt"
	"slices"
	"testing"
	"time"

	"intaglio/api"
	"intaglio/cause"
)

// Errors that the package did not make.

type plain struct{ text string }

func (p *plain) Error() string { return p.text } // panics, of a nil one

// row can't be compared.
type row []string

func (r row) Error() string { return "row" }

// mute panics, whatever it is asked.
type mute struct{}

func (mute) Error() string          { panic("Error") }
func (mute) Unwrap() error          { panic(nil) }
func (mute) Is(error) bool          { panic("Is") }
func (mute) As(any) bool            { panic("As") }
func (mute) String() string         { panic("String") }
func (mute) Format(fmt.State, rune) { panic("Format") }

// manyMute panics when it is asked for many.
type manyMute struct{}

func (manyMute) Error() string   { return "many" }
func (manyMute) Unwrap() []error { panic("Unwrap") }

// ring wraps itself.
type ring struct{}

func (ring) Error() string   { return "ring" }
func (r ring) Unwrap() error { return r }

// coil wraps a trouble that wraps it.
type coil struct{}

func (coil) Error() string   { return "coil" }
func (c coil) Unwrap() error { return cause.Because(api.ErrForm, cause.At(c, 4)) }

// bush wraps itself twice, with nothing between.
type bush struct{}

func (bush) Error() string     { return "bush" }
func (b bush) Unwrap() []error { return []error{nil, b, nil, b} }

// endless wraps another one each time.
type endless struct{ n int }

func (endless) Error() string   { return "endless" }
func (e endless) Unwrap() error { return endless{e.n + 1} }

// liar claims to be each code.
type liar struct{}

func (liar) Error() string { return "liar" }
func (liar) Is(error) bool { return true }
func (liar) As(target any) bool {
	if code, is := target.(*api.Errno); is {
		*code = api.ErrFull
	}
	return true
}

func strangers() map[string]error {
	doubled := error(&plain{"leaf"})
	for range 64 {
		doubled = group{doubled, doubled}
	}
	return map[string]error{
		"plain":        &plain{"x"},
		"nil pointer":  (*plain)(nil),
		"row":          row{"a"},
		"mute":         mute{},
		"mute pointer": (*mute)(nil),
		"many mute":    manyMute{},
		"ring":         ring{},
		"bush":         bush{},
		"endless":      endless{},
		"liar":         liar{},
		"doubled":      doubled,
		"joined":       errors.Join(row{}, mute{}, ring{}),
		"wrapped":      fmt.Errorf("w: %w", &plain{"x"}),
	}
}

// within fails the test, if f does not end, or panics.
func within(t *testing.T, f func()) {
	t.Helper()
	ended := make(chan any, 1)
	go func() {
		defer func() { ended <- recover() }()
		f()
	}()
	select {
	case p := <-ended:
		if p != nil {
			t.Errorf("panics: %v", p)
		}
	case <-time.After(time.Minute):
		t.Fatal("does not end")
	}
}

// P1: every call ends, and none panics; a stranger that wraps no code has none, and no word.
func TestStrangers(t *testing.T) {
	for name, err := range strangers() {
		t.Run(name, func(t *testing.T) {
			within(t, func() {
				got := ask(err)
				if len(got.codes) != 0 || got.top != api.OK || got.root != api.OK || got.at || got.word != 0 {
					t.Errorf("told %+v", got)
				}
				for _, c := range codes(api.OK, api.ErrArg, api.ErrFull) {
					if cause.Has(err, c) {
						t.Errorf("Has %d", int(c))
					}
				}
			})
		})
	}
}

// P1: so does every call upon a trouble that is made over a stranger; what was made around it is told.
func TestOverStrangers(t *testing.T) {
	for name, err := range strangers() {
		t.Run(name, func(t *testing.T) {
			within(t, func() {
				trouble := cause.At(cause.Because(api.ErrGone, cause.At(cause.Because(api.ErrArg, err), 5)), 9)
				check(t, name, trouble, told{codes(api.ErrGone, api.ErrArg), api.ErrGone, api.ErrArg, 5, true,
					"word 9: intaglio: error 22 because word 5: intaglio: error 1 because " + cause.Text(err)})
				if !cause.Has(trouble, api.ErrGone) || !cause.Has(trouble, api.ErrArg) || cause.Has(trouble, api.ErrFull) || cause.Has(trouble, api.OK) {
					t.Error("Has tells other codes than Codes")
				}
				if trouble.Error() != cause.Text(trouble) {
					t.Error("Error and Text differ")
				}
				check(t, name, cause.At(err, 5), told{nil, api.OK, api.OK, 5, true, "word 5: " + cause.Text(err)})
			})
		})
	}
}

func TestStrangersTexts(t *testing.T) {
	for err, want := range map[error]string{&plain{"x"}: "x", ring{}: "ring", mute{}: "", (*plain)(nil): ""} {
		if got := cause.Text(err); got != want {
			t.Errorf("Text: %q, want %q", got, want)
		}
	}
}

// Of what strangers wrap, the codes and words are told that the library finds there, in its order.
func TestWithinStrangers(t *testing.T) {
	deep := cause.Because(api.ErrGone, cause.At(cause.New(api.ErrRange), 7))
	wrapped := fmt.Errorf("w: %w", deep)
	check(t, "wrapped", wrapped, told{codes(api.ErrGone, api.ErrRange), api.ErrGone, api.ErrRange, 7, true, "w: " + cause.Text(deep)})
	check(t, "wrapped again", cause.Because(api.ErrRetry, wrapped),
		told{codes(api.ErrRetry, api.ErrGone, api.ErrRange), api.ErrRetry, api.ErrRange, 7, true, "intaglio: error 17 because w: " + cause.Text(deep)})
	joined := errors.Join(&plain{"x"}, wrapped, cause.New(api.ErrFull))
	check(t, "joined", joined, told{codes(api.ErrGone, api.ErrRange, api.ErrFull), api.ErrGone, api.ErrFull, 7, true, joined.Error()})
	for _, err := range []error{wrapped, joined} {
		for c := api.Errno(0); c <= 25; c++ {
			if cause.Has(err, c) != errors.Is(err, c) {
				t.Errorf("%v: Has %d is not what errors.Is tells", err, int(c))
			}
		}
		var top api.Errno
		if !errors.As(err, &top) || cause.Top(err) != top {
			t.Errorf("%v: Top is not what errors.As tells", err)
		}
	}
}

// As many levels of strangers as the document's limits allow hide nothing.
func TestDeepStrangers(t *testing.T) {
	err := cause.At(cause.New(api.ErrRange), 3)
	for range 1 << 16 {
		err = shell{err}
	}
	check(t, "deep", err, told{codes(api.ErrRange), api.ErrRange, api.ErrRange, 3, true, "shell"})
	if !cause.Has(err, api.ErrRange) || cause.Has(err, api.ErrArg) {
		t.Error("Has tells other codes than Codes")
	}
}

type shell struct{ inner error }

func (shell) Error() string   { return "shell" }
func (s shell) Unwrap() error { return s.inner }

// A stranger that leads back to itself by a trouble has that trouble's codes, however often.
func TestCoil(t *testing.T) {
	within(t, func() {
		err := cause.Because(api.ErrGone, coil{})
		if cause.Top(err) != api.ErrGone || cause.Root(err) != api.ErrForm || !cause.Has(err, api.ErrForm) || cause.Has(err, api.ErrArg) {
			t.Error("codes of a coil are not told")
		}
		if word, is := cause.Word(err); word != 4 || !is {
			t.Errorf("Word: %d, %v", word, is)
		}
		if got := cause.Text(err); got != "intaglio: error 22 because coil" {
			t.Errorf("Text: %q", got)
		}
		if !slices.Contains(cause.Codes(err), api.ErrForm) {
			t.Error("Codes has not ErrForm")
		}
	})
}

// What strangers wrap stays as it is.
func TestStrangersStay(t *testing.T) {
	rows := group{cause.New(api.ErrArg), nil, cause.New(api.ErrForm)}
	check(t, "group", rows, told{codes(api.ErrArg, api.ErrForm), api.ErrArg, api.ErrForm, 0, false, "group"})
	if rows[0] != cause.New(api.ErrArg) || rows[1] != nil || rows[2] != cause.New(api.ErrForm) {
		t.Error("what was handed in was changed")
	}
}

type group []error

func (group) Error() string     { return "group" }
func (g group) Unwrap() []error { return g }

// OK, handed in as an error, is a code like the others.
func TestOKAsError(t *testing.T) {
	check(t, "OK", api.OK, told{codes(api.OK), api.OK, api.OK, 0, false, "intaglio: error 0"})
	if !cause.Has(api.OK, api.OK) || cause.Has(api.OK, api.ErrArg) {
		t.Error("Has of OK")
	}
}
