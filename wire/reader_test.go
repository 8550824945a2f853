package wire

import (
	"errors"
	"testing"

	"cloisonne/api"
)

// A fault comes to its error (P3.1); what is none goes on, as it is.

func TestFaultsAreCaught(t *testing.T) {
	if err := errorOf(nil); err != api.OK {
		t.Errorf("of nothing: %d", err)
	}
	for _, want := range []api.Errno{api.ErrShort, api.ErrForm, api.ErrLong} {
		if err := errorOf(fault(want)); err != want {
			t.Errorf("%d: %d", want, err)
		}
	}
}

func TestAnythingElseGoesOn(t *testing.T) {
	for _, thing := range []any{api.ErrForm, api.OK, "fault", 4, errors.New("another one")} {
		func() {
			defer func() {
				if up := recover(); up != thing {
					t.Errorf("%v: %v came up", thing, up)
				}
			}()
			errorOf(thing)
		}()
	}
}
