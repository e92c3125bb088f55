package eval_test

import (
	"errors"
	"math/rand"
	"strings"
	"testing"

	"typecase/api"
	"typecase/eval"
	"typecase/expr"
	"typecase/lex"
)

// nodes are those of an expression's text.
func nodes(t *testing.T, src string) []api.Node {
	t.Helper()
	lines, err := lex.Lines([]byte(src))
	if err != nil {
		t.Fatalf("%q: %v", src, err)
	}
	l, behind, err := expr.Parse(lines[0])
	if err != nil || len(behind) > 0 {
		t.Fatalf("%q: %v, %v", src, behind, err)
	}
	return l
}

const all = uint32(1<<32 - 1)

var syms = []eval.Symbol{
	{Name: "x", Value: 100, Class: eval.Place}, {Name: "y", Value: 0x12345FFF, Class: eval.Place},
	{Name: "n", Value: 7}, {Name: "m", Value: all}, {Name: "n", Value: 99, Class: eval.Place}, {Name: "x", Value: 5}, {Name: "zero"},
}

const place = 64

func TestValue(t *testing.T) {
	for _, c := range []struct {
		src   string
		want  uint32
		class eval.Class
	}{
		{"5", 5, eval.Fixed}, {"n", 7, eval.Fixed}, {"x", 100, eval.Place}, {".", 64, eval.Place},
		{"-5", all - 4, eval.Fixed}, {"-zero", 0, eval.Fixed}, {"~n", all - 7, eval.Fixed}, {"-0x80000000", 1 << 31, eval.Fixed},
		{"%hi(0x800)", 1, eval.Fixed}, {"%lo(0x800)", all - 2047, eval.Fixed}, {"%hi(y)", 0x12346, eval.Fixed}, {"%lo(y)", all, eval.Fixed}, {"%hi(.)", 0, eval.Fixed},
		{"%pcrel(x)", 36, eval.Fixed}, {"%pcrel(.)", 0, eval.Fixed}, {"%pcrel(n)", all - 56, eval.Fixed},
		{"x+4", 104, eval.Place}, {"4+x", 104, eval.Place}, {"x-4", 96, eval.Place}, {"x-x", 0, eval.Fixed}, {"y-x", 0x12345FFF - 100, eval.Fixed}, {".-x", all - 35, eval.Fixed},
		{"n+n", 14, eval.Fixed}, {"n-m", 8, eval.Fixed}, {"m+1", 0, eval.Fixed}, {"x+m", 99, eval.Place}, {"x-x+n", 7, eval.Fixed}, {"x+(y-x)", 0x12345FFF, eval.Place},
		{"n*m", all - 6, eval.Fixed}, {"0x10000*0x10000", 0, eval.Fixed}, {"m/n", all / 7, eval.Fixed}, {"n/m", 0, eval.Fixed}, {"-8/2", (all - 7) / 2, eval.Fixed},
		{"1<<31", 1 << 31, eval.Fixed}, {"1<<32", 0, eval.Fixed}, {"m<<m", 0, eval.Fixed}, {"m>>31", 1, eval.Fixed}, {"m>>32", 0, eval.Fixed}, {"m>>0", all, eval.Fixed},
		{"0xF0&0x3C", 0x30, eval.Fixed}, {"0xF0^0x3C", 0xCC, eval.Fixed}, {"0xF0|0x3C", 0xFC, eval.Fixed},
	} {
		got, class, err := eval.Value(nodes(t, c.src), syms, place, false)
		if got != c.want || class != c.class || err != nil {
			t.Errorf("P12.1: %s: %#x, %d, %v, want %#x, %d", c.src, got, class, err, c.want, c.class)
		}
	}
}

func checkFault(t *testing.T, what string, l []api.Node, early bool, line, col int, code api.Code) {
	t.Helper()
	v, class, err := eval.Value(l, syms, place, early)
	var f *api.Fault
	if !errors.As(err, &f) || f.Line != line || f.Col != col || !errors.Is(err, code) {
		t.Errorf("P12.1: %s: %v, want %d:%d: %v", what, err, line, col, code)
	}
	if v != 0 || class != eval.Fixed {
		t.Errorf("P12.1: %s: %d, %d beside an error", what, v, class)
	}
}

func TestFaults(t *testing.T) {
	for _, c := range []struct {
		src   string
		early bool
		col   int
		code  api.Code
	}{
		{"z", false, 1, api.Undef}, {"1+z", true, 3, api.Undef}, {"z/0", false, 1, api.Undef}, {"%pcrel(z)", true, 8, api.Undef},
		{"x+x", false, 2, api.BadClass}, {".+.", false, 2, api.BadClass}, {"4-x", false, 2, api.BadClass}, {"-x", false, 1, api.BadClass}, {"~x", false, 1, api.BadClass},
		{"x*1", false, 2, api.BadClass}, {"1*x", false, 2, api.BadClass}, {"x/1", false, 2, api.BadClass}, {"1/x", false, 2, api.BadClass}, {"x/0", false, 2, api.BadClass},
		{"x<<1", false, 2, api.BadClass}, {"1<<x", false, 2, api.BadClass}, {"x>>1", false, 2, api.BadClass}, {"x&1", false, 2, api.BadClass}, {"1^x", false, 2, api.BadClass}, {"x|x", false, 2, api.BadClass}, {"x*x", false, 2, api.BadClass},
		{"x", true, 1, api.BadClass}, {".", true, 1, api.BadClass}, {"x-x", true, 1, api.BadClass}, {"%hi(x)", true, 5, api.BadClass}, {"%pcrel(5)", true, 1, api.BadClass}, {"1+.", true, 3, api.BadClass}, {"%lo(.)", true, 5, api.BadClass},
		{"1/0", false, 2, api.Range}, {"1/0", true, 2, api.Range}, {"n/(n-n)", true, 2, api.Range}, {"0/zero+z", false, 2, api.Range},
	} {
		checkFault(t, c.src, nodes(t, c.src), c.early, 1, c.col, c.code)
	}
}

func TestBadNodes(t *testing.T) {
	num := api.Node{Kind: api.Num, Line: 2, Col: 1, Num: 3}
	at := func(kind int) api.Node { return api.Node{Kind: kind, Line: 3, Col: 9} }
	checkFault(t, "nothing", nil, false, 0, 0, api.BadExpr)
	checkFault(t, "two", []api.Node{num, {Kind: api.Num, Line: 4, Col: 5}}, false, 4, 5, api.BadExpr)
	checkFault(t, "three, joined once", []api.Node{num, num, num, at(api.Plus)}, true, 3, 9, api.BadExpr)
	for _, kind := range []int{0, -1, api.Any + 1, 99} {
		checkFault(t, "no kind", []api.Node{num, num, at(kind)}, false, 3, 9, api.BadExpr)
		checkFault(t, "no kind alone", []api.Node{at(kind)}, false, 3, 9, api.BadExpr)
		checkFault(t, "no kind, and more behind", []api.Node{at(kind), num}, false, 3, 9, api.BadExpr)
	}
	for kind := api.Neg; kind <= api.Any; kind++ {
		checkFault(t, "no parts", []api.Node{at(kind)}, true, 3, 9, api.BadExpr)
		if kind >= api.Plus {
			checkFault(t, "one part", []api.Node{num, at(kind)}, true, 3, 9, api.BadExpr)
		}
	}
}

// TestEarly: what is told early is told the same at each place.
func TestEarly(t *testing.T) {
	r := rand.New(rand.NewSource(12))
	words := strings.Fields("1 7 n m x . z %hi( %lo( %pcrel( ( ) + - * / << >> & ^ | ~")
	tried := 0
	for range 40000 {
		var src strings.Builder
		for range 1 + r.Intn(7) {
			src.WriteString(words[r.Intn(len(words))] + " ")
		}
		lines, err := lex.Lines([]byte(src.String()))
		if err != nil {
			t.Fatal(err)
		}
		l, _, err := expr.Parse(lines[0])
		if err != nil {
			continue
		}
		v, class, err := eval.Value(l, syms, place, true)
		if err != nil {
			continue
		}
		tried++
		for _, at := range []uint32{0, 1, 4096, all} {
			for _, early := range []bool{false, true} {
				got, again, err := eval.Value(l, syms, at, early)
				if got != v || again != class || err != nil || class != eval.Fixed {
					t.Fatalf("P12.2: %s: %d, early, and %d at %d, %v", src.String(), v, got, at, err)
				}
			}
		}
	}
	if tried < 1000 {
		t.Errorf("only %d expressions were tried", tried)
	}
}
