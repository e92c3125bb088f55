package fault_test

import (
	"errors"
	"testing"

	"typecase/api"
	"typecase/fault"
)

func check(t *testing.T, err error, line, col int, code api.Code) {
	t.Helper()
	var f *api.Fault
	if !errors.As(err, &f) || f.Line != line || f.Col != col || !errors.Is(err, code) {
		t.Errorf("%v, want %d:%d: %v", err, line, col, code)
	}
}

func TestAt(t *testing.T) {
	first := fault.At(3, 4, api.Undef)
	check(t, first, 3, 4, api.Undef)
	check(t, fault.At(9, 9, first), 3, 4, api.Undef)
	l := []api.Token{{Line: 1, Col: 2}, {Line: 5, Col: 6}}
	check(t, fault.AtToken(l[0], api.Odd), 1, 2, api.Odd)
	check(t, fault.AtEnd(l, api.Odd), 5, 6, api.Odd)
	check(t, fault.AtEnd(nil, api.Odd), 0, 0, api.Odd)
	check(t, fault.AtNext(l, 0, api.Odd), 1, 2, api.Odd)
	check(t, fault.AtNext(l, 2, api.Odd), 5, 6, api.Odd)
}
