// Package cause is layer 1: errors that carry a code, the error that caused it, and the word where it is. See shared/doc/01-cause.md.
package cause

import (
	"errors"
	"strconv"
	"strings"

	"intaglio/api"
)

// New is the trouble of a code: nothing, of OK.
func New(code api.Errno) error {
	if code == api.OK {
		return nil
	}
	return code
}

// Because is a code over the error that caused it: err itself, if the code is OK.
func Because(code api.Errno, err error) error {
	if code == api.OK {
		return err
	}
	if err == nil {
		return New(code)
	}
	return over{code, err}
}

// At is err at a word: nothing, of nothing.
func At(err error, word int) error {
	if err == nil {
		return nil
	}
	return at{err, word}
}

// Top is err's first code: OK, if it has none.
func Top(err error) api.Errno {
	var code api.Errno
	if errors.As(known(err), &code) {
		return code
	}
	return api.OK
}

// Root is err's last code: OK, if it has none.
func Root(err error) api.Errno {
	codes := Codes(err)
	if len(codes) == 0 {
		return api.OK
	}
	return codes[len(codes)-1]
}

// Has tells whether code is one of err's; of nothing, whether it is OK.
func Has(err error, code api.Errno) bool {
	if err == nil {
		return code == api.OK
	}
	return errors.Is(known(err), code)
}

// Word is the innermost word that err is at, and whether there is one.
func Word(err error) (int, bool) {
	word, found := 0, false
	for link := range links(err) {
		if a, is := link.(at); is {
			word, found = a.word, true
		}
	}
	return word, found
}

// Codes are all of err's codes, the topmost one first.
func Codes(err error) []api.Errno {
	var codes []api.Errno
	for link := range links(err) {
		switch e := link.(type) {
		case api.Errno:
			codes = append(codes, e)
		case over:
			codes = append(codes, e.code)
		}
	}
	return codes
}

// Text is err in words: nothing, of nothing.
func Text(err error) string {
	var text strings.Builder
	for link := range links(err) {
		switch e := link.(type) {
		case over:
			text.WriteString(e.code.Error() + " because ")
		case at:
			text.WriteString("word " + strconv.Itoa(e.word) + ": ")
		default:
			// A stranger's text tells of what it wraps, too.
			text.WriteString(said(link))
			return text.String()
		}
	}
	return text.String()
}
