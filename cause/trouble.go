package cause

import "intaglio/api"

// over is a code and the error that is its cause. It and at are plain values, so that troubles made alike are equal.
type over struct {
	code  api.Errno
	cause error
}

func (o over) Error() string { return Text(o) }

func (o over) Unwrap() error { return o.cause }

// Is lets errors.Is find the code: it is beside the wrapped cause, where Unwrap does not lead.
func (o over) Is(target error) bool {
	code, is := target.(api.Errno)
	return is && code == o.code
}

// As lets errors.As find the code ahead of those of the cause.
func (o over) As(target any) bool {
	code, is := target.(*api.Errno)
	if !is || code == nil {
		return false
	}
	*code = o.code
	return true
}

// at is an error at a word.
type at struct {
	err  error
	word int
}

func (a at) Error() string { return Text(a) }

func (a at) Unwrap() error { return a.err }
