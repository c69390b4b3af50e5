// Package faults: what goes wrong with a disk, as errors that each layer wraps with words of its own.
package faults

import (
	"errors"
	"strconv"

	"haven/api"
)

// ErrPower is inside every fault of a disk whose power has gone.
var ErrPower = errors.New("the power has gone")

// Fault is what a disk's call answered in place of OK.
type Fault struct {
	Call   string
	Answer api.Errno
}

func (f *Fault) Error() string {
	text := "the disk's " + f.Call + " answered " + strconv.Itoa(int(f.Answer))
	if cause := f.Unwrap(); cause != nil {
		text += ": " + cause.Error()
	}
	return text
}

// Unwrap lets errors.Is find that the power has gone.
func (f *Fault) Unwrap() error {
	if f.Answer == api.ErrGone {
		return ErrPower
	}
	return nil
}

// layer is an error as a layer tells it that it came through.
type layer struct {
	words string
	cause error
}

func (l *layer) Error() string { return l.words + ": " + l.cause.Error() }

func (l *layer) Unwrap() error { return l.cause }

// Wrap puts a layer's words round an error; of no error there is none.
func Wrap(words string, cause error) error {
	if cause == nil {
		return nil
	}
	return &layer{words: words, cause: cause}
}
