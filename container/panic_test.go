package container

import (
	"errors"
	"testing"

	"offshoot/api"
)

// An error that was given up with is told; nothing, if there was none.
func TestTold(t *testing.T) {
	if e := told(nil); e != api.OK {
		t.Errorf("of none: %v", e)
	}
	if e := told(wrong(api.ErrIndex)); e != api.ErrIndex {
		t.Errorf("of ErrIndex: %v", e)
	}
}

// Another panic is no error of the document's: it goes on, as it was.
func TestAnotherPanic(t *testing.T) {
	for _, p := range []any{"text", 9, api.ErrIndex, errors.New("other")} {
		func() {
			defer func() {
				if q := recover(); q != p {
					t.Errorf("%v became %v", p, q)
				}
			}()
			t.Errorf("%v was told as %v", p, told(p))
		}()
	}
}
