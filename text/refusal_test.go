package text

import (
	"errors"
	"testing"

	"sheaf/api"
)

func TestAttemptRecoversRefusals(t *testing.T) {
	v, errno := attempt(func() api.Value { panic(refusal(api.ErrDeep)) })
	if v.Kind != 0 || errno != api.ErrDeep {
		t.Errorf("P1: %v, %d", v, errno)
	}
	if v, errno := attempt(func() api.Value { return api.Value{Kind: api.Null} }); v.Kind != api.Null || errno != api.OK {
		t.Errorf("P1: %v, %d", v, errno)
	}
}

// TestAttemptHidesNoFault: a panic that is no parser's own must not pass for an answer.
func TestAttemptHidesNoFault(t *testing.T) {
	fault := errors.New("fault")
	defer func() {
		if r := recover(); r != fault {
			t.Errorf("recovered %v", r)
		}
	}()
	attempt(func() api.Value { panic(fault) })
}
