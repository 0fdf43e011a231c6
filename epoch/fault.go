package epoch

import (
	"errors"
	"strconv"

	"epoch/api"
)

// fault is what goes wrong inside. It has the number that it becomes at the
// calls, for which nothing but them asks.
type fault struct {
	number api.Errno
	what   string
}

func (f fault) Error() string { return f.what }

func epochIsOver() error { return fault{api.ErrClosed, "the epoch is over"} }

// frameFault is what goes wrong with a frame whose head could be read.
type frameFault struct {
	place place
	cause error
}

func (f frameFault) Error() string {
	member, generation := strconv.Itoa(f.place.member), strconv.Itoa(f.place.generation)
	return "member " + member + ", generation " + generation + ": " + f.cause.Error()
}

func (f frameFault) Unwrap() error { return f.cause }

// numberOf is OK of no error. Any other is a fault or wraps one, so that none
// is taken for OK.
func numberOf(err error) api.Errno {
	var f fault
	if errors.As(err, &f) {
		return f.number
	}
	return api.OK
}
