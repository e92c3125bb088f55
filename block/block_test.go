package block_test

import (
	"errors"
	"math"
	"slices"
	"strings"
	"testing"

	"typecase/api"
	"typecase/block"
	"typecase/lex"
)

// lines are those of a source whose lines are parted by semicolons.
func lines(t *testing.T, src string) [][]api.Token {
	t.Helper()
	l, err := lex.Lines([]byte(strings.ReplaceAll(src, ";", "\n")))
	if err != nil {
		t.Fatal(err)
	}
	return l
}

func TestKindOf(t *testing.T) {
	for src, want := range map[string]block.Kind{
		".macro m": block.Macro, ".endm": block.EndMacro, ".rept 3": block.Repeat, ".endr": block.EndRepeat, ".if x": block.If, ".else": block.Else, ".endif": block.EndIf,
		"  .else # x": block.Else, ".if": block.If, ".endif 5 5": block.EndIf, ".macro: x": block.Macro,
		"": block.Plain, "nop": block.Plain, "x: .if 1": block.Plain, "@if": block.Plain, `".if"`: block.Plain, ".equ x, 1": block.Plain, ".IF 1": block.Plain, ".elseif": block.Plain, ".i": block.Plain, "5 .if": block.Plain,
	} {
		if got := block.KindOf(lines(t, src)[0]); got != want {
			t.Errorf("P13.1: %q: %d, want %d", src, got, want)
		}
	}
	if block.Macro != 1 || block.EndMacro != 2 || block.Repeat != 3 || block.EndRepeat != 4 || block.If != 5 || block.Else != 6 || block.EndIf != 7 {
		t.Error("P13.1: the kinds' numbers")
	}
	if block.KindOf([]api.Token{{Kind: api.Local, Text: ".if"}}) != block.Plain {
		t.Error("P13.1: a Local begins no block")
	}
}

func TestLabels(t *testing.T) {
	for src, want := range map[string]int{
		"": 0, "nop": 0, "x:": 2, "x: nop": 2, "x: @y: z:": 6, "x: y": 2, "x :: y:": 2, ": x:": 0, "5: x": 0, "x y:": 0, "x: , y:": 2, ".: nop": 2, "a0:": 2, "x: 5:": 2, "@l: m": 2, `"x": y`: 0, "x: y z:": 2, "x, y:": 0,
	} {
		if got := block.Labels(lines(t, src)[0]); got != want {
			t.Errorf("P13.1: %q: %d, want %d", src, got, want)
		}
	}
}

func TestEnd(t *testing.T) {
	for _, c := range []struct {
		src            string
		at, end, other int
	}{
		{".if 1;x;.else;y;.endif", 0, 4, 2}, {".if 1;.endif", 0, 1, -1}, {".macro m;.endm", 0, 1, -1}, {".rept 2;x;;.endr", 0, 3, -1},
		{"x;.if 1;.else;.endif;.endif", 1, 3, 2},
		{".if 1;.if 2;.else;.endif;.else;.if 3;.else;.endif;.endif", 0, 8, 4}, {".if 1;.if 2;.else;.endif;.endif", 0, 4, -1}, {".if 1;.if 2;.else;.endif;.endif", 1, 3, 2},
		{".macro m;.rept 3;.if 1;.else;.endif;.endr;.endm;.endr", 0, 6, -1}, {".macro m;.macro n;.endm;.endm;x", 0, 3, -1}, {".rept 1;.rept 2;.endr;.rept 3;.endr;.endr", 0, 5, -1},
		{".rept 1;.if 1;.else;.endif;.endr", 0, 4, -1}, {".if 1;.rept 1;.endr;.else;.rept 1;.endr;.endif", 0, 6, 3},
		{".if 1;x: .else;x: .endif;.endif", 0, 3, -1}, {".if 1;.endif;.else;.endr;.endm;.macro", 0, 1, -1},
	} {
		l := lines(t, c.src)
		end, other, err := block.End(l, c.at)
		if end != c.end || other != c.other || err != nil {
			t.Errorf("P13.2: %q at %d: %d, %d, %v", c.src, c.at, end, other, err)
		}
		// Whatever stands behind the end plays no part.
		for _, tail := range []string{".endif", ".else", ".macro x", ".endr", "junk ( ,", ".if 0"} {
			more := append(slices.Clone(l[:c.end+1]), lines(t, tail)...)
			if end, other, err := block.End(more, c.at); end != c.end || other != c.other || err != nil {
				t.Errorf("P13.3: %q, and %q: %d, %d, %v", c.src, tail, end, other, err)
			}
		}
	}
}

func TestFaults(t *testing.T) {
	for _, c := range []struct {
		src           string
		at, line, col int
	}{
		{"x", 0, 1, 1}, {";  x y", 1, 2, 3}, {"", 0, 0, 0}, {"x;;y", 1, 0, 0}, {"x", 1, 0, 0}, {"x", -1, 0, 0}, {"x", math.MaxInt, 0, 0}, {"x", math.MinInt, 0, 0},
		{".endif", 0, 1, 1}, {".else", 0, 1, 1}, {".endm;.endm", 0, 1, 1}, {"x: .if 1;.endif", 0, 1, 1},
		{" .if 1", 0, 1, 2}, {"x; .rept 2;y", 1, 2, 2}, {".macro m;.macro n;.endm", 0, 1, 1}, {".if 1;.else", 0, 1, 1},
		{".if 1; .endr;.endif", 0, 2, 2}, {".if 1;.endm", 0, 2, 1}, {".rept 1;x;  .endif", 0, 3, 3}, {".rept 1;.endm", 0, 2, 1}, {".macro m;.endr", 0, 2, 1}, {".macro m;.endif", 0, 2, 1},
		{".rept 1;.else;.endr", 0, 2, 1}, {".macro m;.else;.endm", 0, 2, 1}, {".if 1;.rept 1;.else;.endr;.endif", 0, 3, 1}, {".if 1;.macro m;.endif;.endm", 0, 3, 1},
		{".if 1;.else;.else;.endif", 0, 3, 1}, {".if 1;.else;.if 2;.else;.endif;.else;.endif", 0, 6, 1}, {".if 1;.if 2;.else;.else;.endif", 0, 4, 1},
		{".if 1;.else;.endr", 0, 3, 1}, {".if 1; .endr 5, x", 0, 2, 2}, {".rept 1;x;  .else 5 6", 0, 3, 3}, {"x y z", 0, 1, 1}, {"  .if 1 2 3;x", 0, 1, 3},
	} {
		end, other, err := block.End(lines(t, c.src), c.at)
		var f *api.Fault
		if !errors.As(err, &f) || f.Line != c.line || f.Col != c.col || !errors.Is(err, api.Open) {
			t.Errorf("P13.2: %q at %d: %v, want %d:%d", c.src, c.at, err, c.line, c.col)
		}
		if end != 0 || other != 0 {
			t.Errorf("P13.2: %q: %d, %d beside an error", c.src, end, other)
		}
	}
	if _, _, err := block.End(nil, 0); !errors.Is(err, api.Open) {
		t.Errorf("P13.2: no lines: %v", err)
	}
}
