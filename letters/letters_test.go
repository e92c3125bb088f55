package letters_test

import (
	"testing"

	"typecase/ins"
	"typecase/letters"
	"typecase/press"
)

// TestLetters: just what has no operands has no letters.
func TestLetters(t *testing.T) {
	for f := ins.None; f <= ins.Bare; f++ {
		if got := letters.OfForm(f); (got == "") != (f == ins.None || f == ins.Bare) {
			t.Errorf("form %d: %q", f, got)
		}
	}
	for _, n := range press.Names() {
		if got := letters.OfShort(n); (got == "") != (n == "c.nop" || n == "c.ebreak") {
			t.Errorf("%s: %q", n, got)
		}
	}
	if letters.OfForm(ins.Form(99)) != "" || letters.OfShort("addi") != "" {
		t.Error("letters of what there isn't")
	}
}
