package cause

import (
	"iter"

	"intaglio/api"
)

// mostStrangers bounds how many errors that this package did not make one call goes through: they may lead back to themselves. It is how many levels of nesting the document allows at most.
const mostStrangers = 1 << 16

// links goes from err inward, each error ahead of those that it wraps, in the order in which errors.Is and errors.As do.
func links(err error) iter.Seq[error] {
	return func(yield func(error) bool) {
		strangers := 0
		for rest := [][]error{{err}}; len(rest) > 0 && strangers <= mostStrangers; {
			last := len(rest) - 1
			if len(rest[last]) == 0 {
				rest = rest[:last]
				continue
			}
			link := rest[last][0]
			rest[last] = rest[last][1:]
			if isStranger(link) {
				strangers++
			}
			if link == nil {
				continue
			}
			if !yield(link) {
				return
			}
			rest = append(rest, wrapped(link))
		}
	}
}

// isStranger asks whether err is no link that this package knows. Nil counts as one: a stranger may wrap rows of it without end.
func isStranger(err error) bool {
	switch err.(type) {
	case api.Errno, over, at:
		return false
	}
	return true
}

// wrapped is what err wraps: nothing, if a stranger panics when it is asked.
func wrapped(err error) (inner []error) {
	defer func() { _ = recover() }()
	switch e := err.(type) {
	case interface{ Unwrap() error }:
		return []error{e.Unwrap()}
	case interface{ Unwrap() []error }:
		return e.Unwrap()
	}
	return nil
}

// said is err's own text: nothing, if a stranger panics when it is asked.
func said(err error) (text string) {
	defer func() { _ = recover() }()
	return err.Error()
}

// known is what errors.Is and errors.As may be asked about. They call methods of every error that they meet, and those of a stranger may panic, never end, or claim codes that it does not wrap; so of an err that has one, known is the codes alone, one over the other.
func known(err error) error {
	for link := range links(err) {
		if isStranger(link) {
			return stacked(Codes(err))
		}
	}
	return err
}

// stacked is the codes, each over the next one.
func stacked(codes []api.Errno) error {
	var err error
	for i := len(codes) - 1; i >= 0; i-- {
		err = over{codes[i], err}
	}
	return err
}
