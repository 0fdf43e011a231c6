package epoch

import (
	"errors"
	"testing"

	"epoch/api"
)

func TestNumbersOfErrors(t *testing.T) {
	for number := api.ErrGroup; number <= api.ErrClosed; number++ {
		plain := fault{number, "what went wrong"}
		once := frameFault{place{1, 2}, plain}
		twice := frameFault{place{3, 4}, once}
		for _, err := range []error{plain, once, twice, errors.Join(once)} {
			if got := numberOf(err); got != number {
				t.Errorf("P9: the number of %q is %d, not %d", err, got, number)
			}
		}
	}
	if got := numberOf(nil); got != api.OK {
		t.Errorf("P9: the number of no error is %d", got)
	}
}

func TestAFrameFaultTellsItsPlaceAndItsCause(t *testing.T) {
	cause := fault{api.ErrSeal, "it does not open"}
	err := frameFault{place{2, 258}, cause}
	if got := err.Error(); got != "member 2, generation 258: it does not open" {
		t.Errorf("a fault of a frame is told as %q", got)
	}
	if !errors.Is(err, cause) || errors.Is(err, fault{api.ErrFar, cause.what}) {
		t.Errorf("a fault of a frame does not wrap its cause: %v", errors.Unwrap(err))
	}
}

// A frame whose head can be read is named by it, one whose head cannot is not.
func TestWhatGoesWrongWithAFrame(t *testing.T) {
	g, _ := New(forgetRoot, 3, 0)
	g.Unprotect(frameAt(3, place{1, 0}))
	for _, c := range []struct {
		frame  []byte
		named  bool
		number api.Errno
	}{
		{nil, false, api.ErrFrame},
		{[]byte{3, 0, 0, 0, 0, 0, 0}, false, api.ErrFrame},
		{[]byte{0, 0, 0, 0, 0, 0, 0}, true, api.ErrOwn},
		{[]byte{1, 0, 0, 0, 0, 0, 0}, true, api.ErrConsumed},
		{[]byte{2, 1, 2, 0, 0, 0, 0}, true, api.ErrFar},
		{[]byte{2, 0, 1, 0, 0, 0, 0}, true, api.ErrSeal},
	} {
		_, err := g.read(c.frame)
		var named frameFault
		if is := errors.As(err, &named); is != c.named || numberOf(err) != c.number {
			t.Errorf("P9: %x goes wrong as %v, not with the number %d", c.frame, err, c.number)
		}
		if c.named && (named.place.head() != [headSize]byte{c.frame[0], c.frame[1], c.frame[2]}) {
			t.Errorf("P9: %x goes wrong as a frame of %v", c.frame, named.place)
		}
	}
}
