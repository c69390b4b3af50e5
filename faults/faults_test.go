package faults

import (
	"errors"
	"testing"

	"haven/api"
)

func TestWrap(t *testing.T) {
	if err := Wrap("nothing", nil); err != nil {
		t.Errorf("of no error there is %v", err)
	}
	for answer, text := range map[api.Errno]string{
		api.ErrIO:   "step 1: sector 2: the disk's Write answered 16",
		api.ErrGone: "step 1: sector 2: the disk's Write answered 17: the power has gone",
	} {
		err := Wrap("step 1", Wrap("sector 2", &Fault{Call: "Write", Answer: answer}))
		var fault *Fault
		if !errors.As(err, &fault) || fault.Answer != answer {
			t.Errorf("%v has no fault of %d inside", err, answer)
		}
		if errors.Is(err, ErrPower) != (answer == api.ErrGone) {
			t.Errorf("%v: the power has gone: %t", err, errors.Is(err, ErrPower))
		}
		if err.Error() != text {
			t.Errorf("the error tells %q, want %q", err, text)
		}
	}
}
