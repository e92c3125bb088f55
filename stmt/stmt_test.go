package stmt_test

import (
	"errors"
	"reflect"
	"strconv"
	"strings"
	"testing"

	"typecase/api"
	"typecase/lex"
	"typecase/stmt"
)

func tokens(t *testing.T, src string) []api.Token {
	t.Helper()
	lines, err := lex.Lines([]byte(src))
	if err != nil {
		t.Fatal(err)
	}
	for k := range lines[0] {
		if lines[0][k].Kind == api.Local {
			lines[0][k].Scope = 3
		}
	}
	return lines[0]
}

// told is a statement as a text: its labels, its name, its operands, each with its column.
func told(s api.Stmt) string {
	var words []string
	for _, l := range s.Labels {
		words = append(words, l.Name+":"+strconv.Itoa(l.Col))
	}
	if s.Name != "" {
		words = append(words, s.Name+" "+strconv.Itoa(s.Col))
	}
	for _, a := range s.Args {
		w := map[int]string{api.OpReg: "reg", api.OpExpr: "expr", api.OpMem: "mem", api.OpText: "text"}[a.Kind]
		w += " " + strconv.Itoa(a.Col) + " " + strconv.Itoa(a.Reg) + " " + strconv.Quote(a.Text)
		for _, n := range a.Nodes {
			w += " " + strconv.Itoa(n.Kind) + n.Name + "=" + strconv.Itoa(int(n.Num))
		}
		words = append(words, w)
	}
	return strings.Join(words, " | ")
}

func TestParse(t *testing.T) {
	for _, c := range []struct{ src, want string }{
		{"", ""}, {"nop", "nop 1"}, {"x:", "x:1"}, {"x: @y: z: nop", "x:1 | y@3:4 | z:8 | nop 11"}, {"@a0: @zero:", "a0@3:1 | zero@3:6"}, {"a8: x32:", "a8:1 | x32:5"},
		{"x: lw a0, 4(sp)", `x:1 | lw 4 | reg 7 10 "" | mem 11 2 "" 1=4`},
		{"li x31, 1+x", `li 1 | reg 4 31 "" | expr 9 0 "" 1=1 2x=0 9=0`},
		{"lw fp, (a0)", `lw 1 | reg 4 8 "" | mem 8 10 ""`}, {"m (a0), (x1) , a1", `m 1 | mem 3 10 "" | mem 9 1 "" | reg 16 11 ""`},
		{"m (a0)+4", `m 1 | expr 3 0 "" 2a0=0 1=4 9=0`}, {"m (a0)(a1)", `m 1 | mem 3 11 "" 2a0=0`}, {"m (a0)*2(a1), 5", `m 1 | mem 3 11 "" 2a0=0 1=2 11=0 | expr 15 0 "" 1=5`}, {"m ((a0))", `m 1 | expr 3 0 "" 2a0=0`},
		{"m a0+4", `m 1 | expr 3 0 "" 2a0=0 1=4 9=0`}, {"m a0(a1)", `m 1 | mem 3 11 "" 2a0=0`}, {"m -a0", `m 1 | expr 3 0 "" 2a0=0 4=0`}, {"m @a0", `m 1 | expr 3 0 "" 2a0@3=0`}, {"m (@a0)", `m 1 | expr 3 0 "" 2a0@3=0`}, {"m (x)", `m 1 | expr 3 0 "" 2x=0`},
		{`.ascii "a", "", "b"`, `.ascii 1 | text 8 0 "a" | text 13 0 "" | text 17 0 "b"`}, {"lw a0, %lo(x)(a1)", `lw 1 | reg 4 10 "" | mem 8 11 "" 2x=0 7=0`}, {"j .+4", `j 1 | expr 3 0 "" 3=0 1=4 9=0`},
		{"a0 a0", `a0 1 | reg 4 10 ""`}, {". 5", `. 1 | expr 3 0 "" 1=5`}, {".macro x", `.macro 1 | expr 8 0 "" 2x=0`}, {"x y", `x 1 | expr 3 0 "" 2y=0`}, {"c.li zero, 'a'", `c.li 1 | reg 6 0 "" | expr 12 0 "" 1=97`},
	} {
		l := tokens(t, c.src)
		s, err := stmt.Parse(l)
		if told(s) != c.want || err != nil {
			t.Errorf("P16.1: %q: %s, %v, want %s", c.src, told(s), err, c.want)
		}
		if !reflect.DeepEqual(l, tokens(t, c.src)) {
			t.Errorf("%q is changed", c.src)
		}
		for _, a := range s.Args {
			if a.Line != 1 || a.Kind == api.OpReg && a.Nodes != nil {
				t.Errorf("P16.1: %q: %v", c.src, a)
			}
		}
	}
	if s, err := stmt.Parse(nil); !reflect.DeepEqual(s, api.Stmt{}) || err != nil {
		t.Errorf("P16.2: %v, %v", s, err)
	}
	if s, err := stmt.Parse(tokens(t, "  x: nop 5")); s.Line != 1 || s.Col != 6 || s.Labels[0].Line != 1 || s.Labels[0].Col != 3 || err != nil {
		t.Errorf("P16.1: %v, %v", s, err)
	}
}

func TestFaults(t *testing.T) {
	for _, c := range []struct {
		src  string
		col  int
		code api.Code
	}{
		{"a0:", 1, api.BadName}, {"x: fp: nop", 4, api.BadName}, {".:", 1, api.BadName}, {"x: .: y", 4, api.BadName}, {"x31: 5", 1, api.BadName}, {"zero: a0: x", 1, api.BadName},
		{"5", 1, api.BadLine}, {"x: 5", 4, api.BadLine}, {"x: , y", 4, api.BadLine}, {"@l", 1, api.BadLine}, {"x: @l nop", 4, api.BadLine}, {`"a"`, 1, api.BadLine}, {`\p`, 1, api.BadLine}, {":", 1, api.BadLine}, {"x: :", 4, api.BadLine}, {"%hi(x)", 1, api.BadLine},
		{"m 1 2", 5, api.BadLine}, {"m a0 a1", 6, api.BadLine}, {`m "a" "b"`, 7, api.BadLine}, {"m 1, 2 3", 8, api.BadLine}, {"m 4(x)", 4, api.BadLine}, {"m 4(5)", 4, api.BadLine}, {"m 4(a0", 4, api.BadLine}, {"m 4(@a0)", 4, api.BadLine}, {"m 4(a0) 5", 9, api.BadLine}, {"m 4(a0)(a0)", 8, api.BadLine}, {"m 4(a0)+1", 8, api.BadLine}, {"m (a0) 5", 8, api.BadLine}, {"m x:", 4, api.BadLine}, {"m 1 = 2", 5, api.BadLine}, {"m 1)", 4, api.BadLine}, {"m x y, 5", 5, api.BadLine}, {`m "a"(a0)`, 6, api.BadLine},
		{"m 1,", 4, api.BadLine}, {"m a0,", 5, api.BadLine}, {"m 1, (a0),", 10, api.BadLine}, {`m "a",`, 6, api.BadLine},
		{"m ,", 3, api.BadExpr}, {"m ,1", 3, api.BadExpr}, {"m 1,,2", 5, api.BadExpr}, {"m 1,,", 5, api.BadExpr}, {"m +1", 3, api.BadExpr}, {"m 1+", 4, api.BadExpr}, {"m (a0", 4, api.BadExpr}, {"m (a0,", 6, api.BadExpr}, {"m ()", 4, api.BadExpr}, {`m \p`, 3, api.BadExpr}, {`m 1, 2+"a"`, 8, api.BadExpr}, {"m a0, a1, )", 11, api.BadExpr}, {"m 1 2,,", 5, api.BadLine}, {"m 1+, 2 3", 5, api.BadExpr}, {"m a0:", 5, api.BadLine},
		{"m " + strings.Repeat("-", 33) + "1", 35, api.Deep},
	} {
		s, err := stmt.Parse(tokens(t, c.src))
		var f *api.Fault
		if !errors.As(err, &f) || f.Line != 1 || f.Col != c.col || !errors.Is(err, c.code) {
			t.Errorf("P16.1: %q: %v, want %d: %v", c.src, err, c.col, c.code)
		}
		if !reflect.DeepEqual(s, api.Stmt{}) {
			t.Errorf("P16.1: %q: %v beside an error", c.src, s)
		}
	}
}
