package expand_test

import (
	"errors"
	"math"
	"reflect"
	"strconv"
	"strings"
	"testing"

	"typecase/api"
	"typecase/eval"
	"typecase/expand"
	"typecase/expr"
	"typecase/lex"
)

// lines are those of a source whose lines are parted by semicolons.
func lines(t *testing.T, src string) [][]api.Token {
	t.Helper()
	l, err := lex.Lines([]byte(strings.ReplaceAll(src, ";", "\n")))
	if err != nil {
		t.Fatalf("%.80q: %v", src, err)
	}
	return l
}

// told is plain lines as a text, the Locals with their scopes.
func told(l [][]api.Token) string {
	var all []string
	for _, line := range l {
		var words []string
		for _, t := range line {
			switch t.Kind {
			case api.Number:
				words = append(words, strconv.Itoa(int(t.Num)))
			case api.Name, api.Local:
				words = append(words, expr.Symbol(t))
			default:
				words = append(words, t.Text)
			}
		}
		all = append(all, strings.Join(words, " "))
	}
	return strings.Join(all, "; ")
}

func toldSyms(l []eval.Symbol) string {
	var words []string
	for _, s := range l {
		words = append(words, s.Name+"="+strconv.Itoa(int(s.Value)))
		if s.Class != eval.Fixed {
			words = append(words, "?")
		}
	}
	return strings.Join(words, " ")
}

func TestExpand(t *testing.T) {
	for _, c := range []struct{ src, want, syms string }{
		{"", "", ""}, {";;# x", "", ""}, {"nop; x: j x", "nop; x : j x", ""}, {"@l: j @l", "l@1 : j l@1", ""},
		// Macros.
		{".macro m; @l: j @l; .endm; m; m", "l@2 : j l@2; l@3 : j l@3", ""},
		{`.macro m a, b=@d; \a \b @l; .endm; m @l; m @l, @e; .rept 1; m @l; .endr`, "l@1 d@1 l@2; l@1 e@1 l@3; l@4 d@1 l@5", ""},
		{".macro m; .endm; x: y: m; m", "x : y :", ""}, {`.macro m a=; \a nop; .endm; @x: m add`, "x@1 :; add nop", ""},
		{".macro m; .macro n; k; .endm; .endm; n; m; n", "n; k", ""}, {`.macro m n; .macro \n; k \n; .endm; .endm; m p; p`, "k p", ""},
		{`.macro m n; .macro \n a=@d; \a @d; .endm; .endm; m p; p`, "d@2 d@3", ""},
		{`.macro m a; \a; .endm; .macro n b; m \b; .endm; n (x, y)`, "( x , y )", ""},
		{`.macro m a, b; .if \a; x \b; .else; y \b; .endif; .endm; m 1, @z; m 0, @z`, "x z@1; y z@1", ""},
		{".macro m; nop; .endm; m: m; m : n: m", "m :; nop; m : n :; nop", ""}, {".macro if; x; .endm; if", "x", ""},
		{`.macro m a; \a 1; x; \a; .endm; m .ifx; m y`, ".ifx 1; x; .ifx; y 1; x; y", ""},
		{`.macro m a, b; \a 1; x; \b; .endm; m .if, .endif; m .rept, .endr`, "x; x", ""},
		{"nop m; .macro m; x; .endm; nop m; 5 m; @m", "nop m; nop m; 5 m; m@1", ""},
		{`.macro m a; .equ \a, 4; .equ @a, 5; .endm; m q; m @r`, "", "q=4 a@2=5 r@1=4 a@3=5"},
		{".macro n; m 1; .endm; .macro m a=2; \\a; .endm; n", "1", ""}, {".macro m; ; \\q @a \\q; .endm; m", "q a@2 q", ""},
		// Repeats.
		{".rept 3; nop; .endr", "nop; nop; nop", ""}, {".rept 0; nop; .endr; x", "x", ""}, {".rept 2; .endr; @x", "x@1", ""},
		{".rept 2; @a; .rept 2; @b; .endr; @a; .endr; @c", "a@2; b@3; b@4; a@2; a@5; b@6; b@7; a@5; c@1", ""},
		{".rept 2; .endr; .rept 1; @a; .endr", "a@4", ""}, {".macro m; .endm; m; m; .rept 1; @a; .endr", "a@4", ""},
		{".rept 2; @l: .rept 2; @m @l; .endr; @l", "l@2 : .rept 2; m@2 l@2; l@3 : .rept 2; m@3 l@3; l@1", ""},
		{".rept 2; .equ @n, 3; .if @n-3; bad; .endif; .endr; .equ @n, 7", "", "n@2=3 n@3=3 n@1=7"},
		{".equ n, 2; .rept n*n-1; .equ @a, n; .endr", "", "n=2 a@2=2 a@3=2 a@4=2"},
		// Ifs.
		{".if 1; a; .else; b; .endif; c", "a; c", ""}, {".if 0; a; .else; b; .endif; c", "b; c", ""}, {".if 0; a; .endif; c", "c", ""}, {".if -1; a; .endif", "a", ""},
		{".if 1; .else; b; .endif", "", ""}, {".if 0; .else; .endif", "", ""}, {".if 1; @a; .if 0; @b; .else; @c; .endif; .endif", "a@1; c@1", ""},
		{".if 0; .if 1; a; .else; b; .endif; .else; .if 1; c; .else; d; .endif; .endif", "c", ""}, {".if 0; .rept; .macro 5; .endm; .endr; .equ; .endif", "", ""},
		// Symbols.
		{".equ x, 5; .equ y, x*2; .if y-10; a; .else; b; .endif; .rept x-3; c; .endr", "b; c; c", "x=5 y=10"},
		{".equ ., 5; .equ a0, ~0; .equ .equ, 1", "", ".=5 a0=4294967295 .equ=1"}, {"x: .equ y, 1; .equ x, 2", "x : .equ y , 1", "x=2"},
	} {
		l := lines(t, c.src)
		got, syms, err := expand.Expand(l, api.MaxFuel)
		if told(got) != c.want || toldSyms(syms) != c.syms || err != nil {
			t.Errorf("P15.1: %s:\n%s | %s, %v, want\n%s | %s", c.src, told(got), toldSyms(syms), err, c.want, c.syms)
		}
		if !reflect.DeepEqual(l, lines(t, c.src)) {
			t.Errorf("%s: what was handed in is changed", c.src)
		}
	}
}

// TestGivenScopes: a Local that has its scope already keeps it.
func TestGivenScopes(t *testing.T) {
	l := lines(t, "@a; .rept 1; @b; .endr; .macro m; @c; .endm; m")
	l[0][0].Scope, l[2][0].Scope, l[5][0].Scope = 9, -4, 77
	got, _, err := expand.Expand(l, 99)
	if told(got) != "a@9; b@-4; c@77" || err != nil {
		t.Errorf("P15.1: %s, %v", told(got), err)
	}
}

func checkFault(t *testing.T, src string, fuel, line, col int, code api.Code) {
	t.Helper()
	plain, syms, err := expand.Expand(lines(t, src), fuel)
	var f *api.Fault
	if !errors.As(err, &f) || f.Line != line || f.Col != col || !errors.Is(err, code) {
		t.Errorf("P15.1: %.200s: %v, want %d:%d: %v", src, err, line, col, code)
	}
	if plain != nil || syms != nil {
		t.Errorf("P15.1: %.200s: lines, or symbols, beside an error", src)
	}
}

func TestFaults(t *testing.T) {
	for _, c := range []struct {
		src       string
		line, col int
		code      api.Code
	}{
		// What stands where it may not, or doesn't end.
		{"x; .endif", 2, 2, api.Open}, {".endm", 1, 1, api.Open}, {".endr", 1, 1, api.Open}, {".else", 1, 1, api.Open}, {".if 1;.if", 1, 1, api.Open}, {".rept x;.endm", 2, 1, api.Open}, {".macro 5", 1, 1, api.Open},
		{".macro m; .if 1; .endm", 3, 2, api.Open}, {".if 1; .else; .else; .endif", 3, 2, api.Open}, {`.macro m a; \a; .endm; m .endr`, 4, 4, api.Open}, {`.macro m a; \a 1; .endm; m .if`, 4, 4, api.Open}, {`.macro m a; .if 1; \a; .endif; .endm; m .endif`, 4, 2, api.Open},
		{".if 1; .endif; .endif", 3, 2, api.Open}, {".rept 1; .endr; .else", 3, 2, api.Open},
		// Macros' heads.
		{".macro; .endm", 1, 1, api.BadLine}, {".macro 5; .endm", 1, 8, api.BadLine}, {".macro .m; .endm", 1, 8, api.BadName}, {".macro m a, a; .endm", 1, 13, api.Twice}, {".macro m a b; .endm", 1, 12, api.BadLine},
		{".macro m; .endm; .macro m a; .endm", 3, 9, api.Twice}, {".macro m; .endm; .macro m 5; .endm", 3, 11, api.BadLine}, {".rept 2; .macro m; .endm; .endr", 2, 9, api.Twice},
		// Lines with expressions.
		{".rept; .endr", 1, 1, api.BadLine}, {".if; .endif", 1, 1, api.BadLine}, {".rept ,; .endr", 1, 7, api.BadExpr}, {`.if "a"; .endif`, 1, 5, api.BadExpr}, {".if 1+; .endif", 1, 6, api.BadExpr}, {".if 1 2; .endif", 1, 7, api.BadLine}, {".rept 1, 2; .endr", 1, 8, api.BadLine}, {".if z 2; .endif", 1, 7, api.BadLine},
		{".if z; .endif", 1, 5, api.Undef}, {"z: .if z; .endif", 2, 2, api.Open}, {"z:; .if z; .endif", 2, 6, api.Undef}, {".if .; .endif", 1, 5, api.BadClass}, {".rept %pcrel(1); .endr", 1, 7, api.BadClass}, {".rept 1/0; .endr", 1, 8, api.Range}, {".if " + strings.Repeat("(", 33) + "; .endif", 1, 37, api.Deep},
		{".if x; .endif; .equ x, 1", 1, 5, api.Undef}, {`.if \a; .endif`, 1, 5, api.BadExpr},
		{".equ", 1, 1, api.BadLine}, {".equ 5", 1, 6, api.BadLine}, {".equ x", 1, 6, api.BadLine}, {".equ x 5", 1, 8, api.BadLine}, {".equ x 5, 6", 1, 8, api.BadLine}, {`.equ x ",", 6`, 1, 8, api.BadLine}, {".equ x = 6", 1, 8, api.BadLine}, {".equ x: y, 6", 1, 7, api.BadLine}, {".equ x,", 1, 7, api.BadLine}, {".equ x, ,", 1, 9, api.BadExpr}, {".equ x, 1 2", 1, 11, api.BadLine}, {".equ x, y", 1, 9, api.Undef}, {".equ x, x", 1, 9, api.Undef}, {".equ x, .", 1, 9, api.BadClass}, {".equ, x, 5", 1, 5, api.BadLine}, {`.equ \x, 1`, 1, 6, api.BadLine},
		{".equ x, 1; .equ x, 1", 2, 7, api.Twice}, {".equ x, 1; .equ x,", 2, 7, api.Twice}, {".equ x, 1; .equ x, (", 2, 7, api.Twice}, {".equ x, 1; .equ x, 1 2", 2, 7, api.Twice}, {".equ x, 1; .equ x", 2, 7, api.BadLine}, {".equ x, 1; .equ x 5", 2, 9, api.BadLine}, {".equ @x, 1; .equ @x, 1", 2, 7, api.Twice},
		// Macros' names.
		{".macro m a; .endm; m", 3, 2, api.BadArgs}, {".macro m; .endm; x: m 5", 3, 5, api.BadArgs}, {".macro m a; .endm; m 1, 2", 3, 2, api.BadArgs},
		{".macro m; m; .endm; m", 2, 2, api.Deep}, {".macro m; nop; x: m; .endm; m", 3, 5, api.Deep}, {".macro m; m 1; .endm; m", 2, 2, api.BadArgs},
	} {
		checkFault(t, c.src, api.MaxFuel, c.line, c.col, c.code)
	}
}

// nested is a line so deep in Repeats, and in nothing else.
func nested(line string, deep int) string {
	return strings.Repeat(".rept 1;", deep) + line + strings.Repeat(";.endr", deep)
}

func TestDeep(t *testing.T) {
	const most = api.MaxDepth
	for _, c := range []struct {
		src, want string
		line      int // 0: nothing is wrong
	}{
		{nested("x", most), "x", 0}, {nested("x", most+1), "", most + 1}, {nested(".rept 0; x; .endr", most), "", 0}, {nested(".rept 0-1; x; .endr", most), "", most + 1},
		{nested(".if 1; .if 1; x; .endif; .endif", most), "x", 0},
		{".macro m; x; .endm;" + nested("m", most-1), "x", 0}, {".macro m; x; .endm;" + nested("m", most), "", 3 + most + 1},
		{".macro m;" + nested("x", most-1) + ";.endm; m", "x", 0}, {".macro m;" + nested("x", most) + ";.endm; m", "", 1 + most},
		{".macro m a; .if \\a; m \\a-1; .else; x; .endif; .endm; m 31", "x", 0}, {".macro m a; .if \\a; m \\a-1; .else; x; .endif; .endm; m 32", "", 3},
		{nested("x", most) + ";" + nested("y", most), "x; y", 0},
	} {
		if c.line == 0 {
			plain, _, err := expand.Expand(lines(t, c.src), api.MaxFuel)
			if told(plain) != c.want || err != nil {
				t.Errorf("P15.1: %s: %s, %v", c.src, told(plain), err)
			}
			continue
		}
		_, _, err := expand.Expand(lines(t, c.src), api.MaxFuel)
		var f *api.Fault
		if !errors.As(err, &f) || f.Line != c.line || !errors.Is(err, api.Deep) {
			t.Errorf("P15.1: %s: %v, want line %d", c.src, err, c.line)
		}
	}
	// An argument that is wrong is told ahead of the depth, the depth ahead of the fuel.
	checkFault(t, ".macro m a; x; .endm;"+nested("m", most), api.MaxFuel, 3+most+1, 1, api.BadArgs)
	checkFault(t, nested("x", most+1), 2*most+1, most+1, 1, api.Deep)
	checkFault(t, nested("x", most+1), 2*most, most+1, 1, api.Fuel)
}

func TestFuel(t *testing.T) {
	for _, c := range []struct {
		src       string
		fuel      int // that is just enough
		line, col int // of what it is missing for
	}{
		{"a;b; c", 3, 3, 2}, {";a;;", 1, 2, 1}, {".if 1;a;b;.endif", 3, 3, 1}, {".if 0;a;.else;b;.endif;c", 3, 6, 1}, {".macro m;a;b;.endm;m", 4, 3, 1}, {"x: y:", 1, 1, 1},
		{" .rept 2;a;.endr", 5, 2, 1}, {" .rept 3;.endr", 4, 1, 2}, {".rept 2;.rept 2;.endr;.endr", 9, 2, 1}, {".rept 1;a;.endr;b", 4, 4, 1}, {".rept 0;a;.endr", 1, 1, 1}, {".equ x, 1", 1, 1, 1},
	} {
		if _, _, err := expand.Expand(lines(t, c.src), c.fuel); err != nil {
			t.Errorf("P15.1: %s, with %d: %v", c.src, c.fuel, err)
		}
		checkFault(t, c.src, c.fuel-1, c.line, c.col, api.Fuel)
	}
	for _, fuel := range []int{0, -1, math.MinInt} {
		checkFault(t, ";  .endif", fuel, 2, 3, api.Fuel)
		if plain, _, err := expand.Expand(lines(t, ";"), fuel); len(plain) != 0 || err != nil {
			t.Errorf("P15.1: a program without lines, without fuel: %v", err)
		}
	}
	// More than MaxFuel counts as MaxFuel: the line of the Repeat itself, and one more for each time.
	for _, fuel := range []int{api.MaxFuel, api.MaxFuel + 1, math.MaxInt} {
		if _, _, err := expand.Expand(lines(t, ".rept 65535;.endr"), fuel); err != nil {
			t.Errorf("P15.1: %v", err)
		}
		checkFault(t, ".rept 65536;.endr", fuel, 1, 1, api.Fuel)
	}
	checkFault(t, ".rept 0-1;@a: nop;.endr", api.MaxFuel, 2, 1, api.Fuel)
}

// TestOwnMemory: plain lines share nothing with what was handed in, or with each other.
func TestOwnMemory(t *testing.T) {
	l := lines(t, "a b; .rept 2; c d; .endr; .macro m; e f; .endm; m; m")
	plain, _, err := expand.Expand(l, 99)
	before := told(plain)
	if err != nil {
		t.Fatal(err)
	}
	for k := range plain {
		plain[k][0].Text = "z" + strconv.Itoa(k)
	}
	if told(plain) != "z0 b; z1 d; z2 d; z3 f; z4 f" {
		t.Errorf("plain lines share memory: %s", told(plain))
	}
	if again, _, _ := expand.Expand(l, 99); told(again) != before {
		t.Errorf("what was handed in is changed: %s", told(again))
	}
}

// TestHygiene: whatever a macro's own labels are called, they are no label of another expansion, or of the caller.
func TestHygiene(t *testing.T) {
	const src = `.macro in a; @l: x \a @l; .endm; .macro out a; @l: in \a; in @l; x \a; .rept 2; @l: in @l; .endr; .endm; @l: out @l; out @l`
	plain, _, err := expand.Expand(lines(t, src), api.MaxFuel)
	if err != nil {
		t.Fatal(err)
	}
	defined := map[string]bool{}
	for _, l := range plain {
		if len(l) >= 2 && l[1].Text == ":" {
			name := expr.Symbol(l[0])
			if defined[name] {
				t.Errorf("P15.2: %s stands twice", name)
			}
			defined[name] = true
		}
	}
	if want := "l@1 :; l@2 :; l@3 : x l@1 l@3; l@4 : x l@2 l@4; x l@1; l@5 :; l@6 : x l@5 l@6; l@7 :; l@8 : x l@7 l@8; l@9 :; l@10 : x l@1 l@10"; !strings.HasPrefix(told(plain), want) {
		t.Errorf("P15.2: %s", told(plain))
	}
}
