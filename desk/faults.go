package desk

import (
	"errors"
	"strconv"

	"vesper/api"
)

// fault is what is wrong: an error's number, and the place within what was given, if that is told.
type fault struct {
	errno  api.Errno
	place  int
	placed bool
}

// Error is what a line tells of it.
func (f fault) Error() string {
	text := "error " + strconv.Itoa(int(f.errno))
	if f.placed {
		text += " at " + strconv.Itoa(f.place)
	}
	return text
}

// undone is that a line was not done, and why.
type undone struct {
	line  int // from 1 on
	cause error
}

func (u undone) Error() string {
	return "desk: line " + strconv.Itoa(u.line) + ": " + u.cause.Error()
}

func (u undone) Unwrap() error { return u.cause }

// refused is an error's number as an error: OK is none.
func refused(e api.Errno) error {
	if e == api.OK {
		return nil
	}
	return fault{errno: e}
}

// refusedAt is one that is no OK, with the place that was told.
func refusedAt(e api.Errno, place int) error {
	return fault{errno: e, place: place, placed: true}
}

// lineOf is the number of the line that was not done; 0, if it is the text as a whole.
func lineOf(err error) int {
	var which undone
	if errors.As(err, &which) {
		return which.line
	}
	return 0
}
