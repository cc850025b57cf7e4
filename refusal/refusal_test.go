package refusal

import (
	"errors"
	"testing"

	"sheaf/api"
)

func TestAttemptRecoversRefusals(t *testing.T) {
	v, errno := Attempt(func() api.Value { panic(Error(api.ErrDeep)) })
	if v.Kind != 0 || errno != api.ErrDeep {
		t.Errorf("P1: %v, %d", v, errno)
	}
	if n, errno := Attempt(func() int { return 7 }); n != 7 || errno != api.OK {
		t.Errorf("P1: %d, %d", n, errno)
	}
}

func TestUnlessGivesUpOnlyIfSomethingIsNotSo(t *testing.T) {
	for ok, want := range map[bool]api.Errno{true: api.OK, false: api.ErrPipe} {
		if n, errno := Attempt(func() int { Unless(ok, api.ErrPipe); return 0 }); n != 0 || errno != want {
			t.Errorf("P1: Unless(%t) = %d, %d", ok, n, errno)
		}
	}
}

func TestRefusalIsAnErrorThatTellsItsNumber(t *testing.T) {
	var err error = Error(api.ErrFilter)
	if err.Error() != "sheaf: refused with error 8" {
		t.Error(err)
	}
}

// TestAttemptHidesNoFault: a panic that is no parser's own must not pass for an answer.
func TestAttemptHidesNoFault(t *testing.T) {
	fault := errors.New("fault")
	defer func() {
		if r := recover(); r != fault {
			t.Errorf("recovered %v", r)
		}
	}()
	Attempt(func() int { panic(fault) })
}
