package lex_test

import (
	"errors"
	"math/rand"
	"reflect"
	"strings"
	"testing"

	"typecase/api"
	"typecase/lex"
)

func name(col int, s string) api.Token { return api.Token{Kind: api.Name, Line: 1, Col: col, Text: s} }
func local(col int, s string) api.Token {
	return api.Token{Kind: api.Local, Line: 1, Col: col, Text: s}
}
func param(col int, s string) api.Token {
	return api.Token{Kind: api.Param, Line: 1, Col: col, Text: s}
}
func fun(col int, s string) api.Token  { return api.Token{Kind: api.Func, Line: 1, Col: col, Text: s} }
func text(col int, s string) api.Token { return api.Token{Kind: api.Text, Line: 1, Col: col, Text: s} }
func mark(col int, s string) api.Token { return api.Token{Kind: api.Mark, Line: 1, Col: col, Text: s} }
func num(col int, n uint32) api.Token {
	return api.Token{Kind: api.Number, Line: 1, Col: col, Num: n}
}

func TestTokens(t *testing.T) {
	for _, c := range []struct {
		src  string
		want []api.Token
	}{
		{"", nil}, {" \t\r", nil}, {"# x", nil}, {"#", nil}, {"  #\"'\xff", nil},
		{"li a0, 0x1F # x", []api.Token{name(1, "li"), name(4, "a0"), mark(6, ","), num(8, 31)}},
		{"._a.$9Z", []api.Token{name(1, "._a.$9Z")}}, {".", []api.Token{name(1, ".")}}, {"_", []api.Token{name(1, "_")}}, {"a@b", []api.Token{name(1, "a"), local(2, "b")}},
		{"AZaz09", []api.Token{name(1, "AZaz09")}}, {"@A \\Z @z9", []api.Token{local(1, "A"), param(4, "Z"), local(7, "z9")}}, {"z", []api.Token{name(1, "z")}}, {"Z", []api.Token{name(1, "Z")}},
		{"0xaAfF09", []api.Token{num(1, 0xAAFF09)}}, {`'\xAf''\xfA''\xFF'`, []api.Token{num(1, 0xAF), num(7, 0xFA), num(13, 0xFF)}},
		{"@l_9.x", []api.Token{local(1, "l_9"), name(5, ".x")}}, {"@_:", []api.Token{local(1, "_"), mark(3, ":")}},
		{`\p1\_q`, []api.Token{param(1, "p1"), param(4, "_q")}},
		{"%hi%lo(%pcrel.x", []api.Token{fun(1, "hi"), fun(4, "lo"), mark(7, "("), fun(8, "pcrel"), name(14, ".x")}},
		{"0 007 4294967295", []api.Token{num(1, 0), num(3, 7), num(7, 1<<32-1)}},
		{"0xFFFFFFFF 0x00000000aB 0b0 0b101", []api.Token{num(1, 1<<32-1), num(12, 0xAB), num(25, 0), num(29, 5)}},
		{"0b11111111111111111111111111111111", []api.Token{num(1, 1<<32-1)}},
		{"1:2,3@x\"y\"'z'", []api.Token{num(1, 1), mark(2, ":"), num(3, 2), mark(4, ","), num(5, 3), local(6, "x"), text(8, "y"), num(11, 'z')}},
		{"'a'b'\"''#'1", []api.Token{num(1, 'a'), name(4, "b"), num(5, '"'), num(8, '#'), num(11, 1)}},
		{`'\n''\t''\r''\0''\\''\'''\"''\xfE'`, []api.Token{num(1, 10), num(5, 9), num(9, 13), num(13, 0), num(17, '\\'), num(21, '\''), num(25, '"'), num(29, 0xFE)}},
		{"' ''~''\x7f''\xff'", []api.Token{num(1, 32), num(4, '~'), num(7, 127), num(10, 255)}},
		{`""`, []api.Token{text(1, "")}}, {"\"a\tb'#\xff\"#", []api.Token{text(1, "a\tb'#\xff")}},
		{`"\n\t\r\0\\\'\"\x41\x0a1"`, []api.Token{text(1, "\n\t\r\x00\\'\"A\n1")}},
		{"<<>>>><<", []api.Token{mark(1, "<<"), mark(3, ">>"), mark(5, ">>"), mark(7, "<<")}},
		{",:()+-*/&|^~=", []api.Token{mark(1, ","), mark(2, ":"), mark(3, "("), mark(4, ")"), mark(5, "+"), mark(6, "-"), mark(7, "*"),
			mark(8, "/"), mark(9, "&"), mark(10, "|"), mark(11, "^"), mark(12, "~"), mark(13, "=")}},
		{"a\rb\tc", []api.Token{name(1, "a"), name(3, "b"), name(5, "c")}},
	} {
		got, err := lex.Lines([]byte(c.src))
		if err != nil || len(got) != 1 || len(got[0]) != len(c.want) || len(c.want) > 0 && !reflect.DeepEqual(got[0], c.want) {
			t.Errorf("P10.1: %q: %v, %v", c.src, got, err)
		}
	}
}

func TestLines(t *testing.T) {
	got, err := lex.Lines([]byte("a\n\n b # \n"))
	want := [][]api.Token{{{Kind: api.Name, Line: 1, Col: 1, Text: "a"}}, nil, {{Kind: api.Name, Line: 3, Col: 2, Text: "b"}}, nil}
	if err != nil || !reflect.DeepEqual(got, want) {
		t.Errorf("P10.1: %v, %v", got, err)
	}
	if got, err := lex.Lines(nil); err != nil || len(got) != 1 {
		t.Errorf("P10.1: of nothing: %v, %v", got, err)
	}
}

func checkFault(t *testing.T, src string, err error, line, col int, code api.Code) {
	t.Helper()
	var f *api.Fault
	if !errors.As(err, &f) || f.Line != line || f.Col != col || !errors.Is(err, code) {
		t.Errorf("P10.1: %.40q: %v, want %d:%d: %v", src, err, line, col, code)
	}
}

func TestFaults(t *testing.T) {
	for _, c := range []struct {
		src       string
		line, col int
		code      api.Code
	}{
		{"4294967296", 1, 1, api.BadNumber}, {"99999999999999999999999999999999999999", 1, 1, api.BadNumber}, {"0x100000000", 1, 1, api.BadNumber},
		{"0b100000000000000000000000000000000", 1, 1, api.BadNumber},
		{"a 0x", 1, 3, api.BadNumber}, {"0b", 1, 1, api.BadNumber}, {"0b2", 1, 1, api.BadNumber}, {"0b12", 1, 1, api.BadNumber}, {"0xg", 1, 1, api.BadNumber}, {"0xG", 1, 1, api.BadNumber}, {"0x@", 1, 1, api.BadNumber}, {`'\xG0'`, 1, 1, api.BadNumber}, {`'\x0@'`, 1, 1, api.BadNumber}, {"`", 1, 1, api.BadByte}, {"a{", 1, 2, api.BadByte}, {"0X1", 1, 1, api.BadNumber}, {"0B1", 1, 1, api.BadNumber},
		{"1a", 1, 1, api.BadNumber}, {"1.", 1, 1, api.BadNumber}, {"1_", 1, 1, api.BadNumber}, {"1$", 1, 1, api.BadNumber}, {"0x1.", 1, 1, api.BadNumber}, {"0b1$", 1, 1, api.BadNumber},
		{"'", 1, 1, api.BadNumber}, {"''", 1, 1, api.BadNumber}, {"'a", 1, 1, api.BadNumber}, {"'ab'", 1, 1, api.BadNumber}, {"'''", 1, 1, api.BadNumber}, {"'\\'", 1, 1, api.BadNumber},
		{"'\t'", 1, 1, api.BadNumber}, {"'\x1f'", 1, 1, api.BadNumber}, {`'\q'`, 1, 1, api.BadNumber}, {`'\x4'`, 1, 1, api.BadNumber}, {`'\x4g'`, 1, 1, api.BadNumber}, {"'\n'", 1, 1, api.BadNumber}, {"'#", 1, 1, api.BadNumber},
		{`"`, 1, 1, api.BadText}, {`"a`, 1, 1, api.BadText}, {`"\"`, 1, 1, api.BadText}, {`"\`, 1, 1, api.BadText}, {`"\q"`, 1, 1, api.BadText}, {`"\x1"`, 1, 1, api.BadText}, {`"\xg1"`, 1, 1, api.BadText},
		{"\"\x1f\"", 1, 1, api.BadText}, {"\"\r\"", 1, 1, api.BadText}, {"x\n \"a\n\"", 2, 2, api.BadText}, {`"a # b`, 1, 1, api.BadText}, {"\"\x00\"", 1, 1, api.BadText},
		{"<", 1, 1, api.BadByte}, {"<<<", 1, 3, api.BadByte}, {"<>", 1, 1, api.BadByte}, {"> >", 1, 1, api.BadByte}, {"<=", 1, 1, api.BadByte},
		{"@", 1, 1, api.BadByte}, {"@1", 1, 1, api.BadByte}, {"@.", 1, 1, api.BadByte}, {"@@a", 1, 1, api.BadByte}, {`\`, 1, 1, api.BadByte}, {`\0`, 1, 1, api.BadByte}, {`\ a`, 1, 1, api.BadByte},
		{"%", 1, 1, api.BadByte}, {"%hix", 1, 1, api.BadByte}, {"%hi1", 1, 1, api.BadByte}, {"%hi_", 1, 1, api.BadByte}, {"%HI", 1, 1, api.BadByte}, {"%pc", 1, 1, api.BadByte}, {"%pcrel_hi", 1, 1, api.BadByte}, {"% hi", 1, 1, api.BadByte},
		{"$x", 1, 1, api.BadByte}, {"!", 1, 1, api.BadByte}, {"\x00", 1, 1, api.BadByte}, {"\v", 1, 1, api.BadByte}, {"\xff", 1, 1, api.BadByte}, {"\x7f", 1, 1, api.BadByte}, {"a;b", 1, 2, api.BadByte}, {"[", 1, 1, api.BadByte},
		{"é", 1, 1, api.BadByte}, {"a\nb\n  ?", 3, 3, api.BadByte}, {"a ? 1a", 1, 3, api.BadByte}, {"1a ?", 1, 1, api.BadNumber},
	} {
		got, err := lex.Lines([]byte(c.src))
		checkFault(t, c.src, err, c.line, c.col, c.code)
		if got != nil {
			t.Errorf("P10.1: %q: lines beside an error: %v", c.src, got)
		}
	}
}

func TestLongSource(t *testing.T) {
	long := strings.Repeat("nop\n", api.MaxSource/4)
	got, err := lex.Lines([]byte(long))
	if err != nil || len(got) != api.MaxSource/4+1 {
		t.Errorf("P10.1: a source of MaxSource bytes: %d lines, %v", len(got), err)
	}
	_, err = lex.Lines([]byte(long + "?"))
	checkFault(t, long, err, 1, 1, api.Range)
	bad := strings.Repeat("?", api.MaxSource+1)
	_, err = lex.Lines([]byte(bad))
	checkFault(t, bad, err, 1, 1, api.Range)
}

// TestNamesStand tries random bytes: each is either told to be wrong, or its tokens stand where they say.
func TestNamesStand(t *testing.T) {
	r := rand.New(rand.NewSource(10))
	const pool = "ab0x1.$_@\\%hilo\"'#,:()<<>>+-*/&|^~= \t\r\n\n"
	for range 20000 {
		b := make([]byte, r.Intn(20))
		for k := range b {
			b[k] = pool[r.Intn(len(pool))]
		}
		before := string(b)
		lines, err := lex.Lines(b)
		if string(b) != before {
			t.Fatal("what was handed in is changed")
		}
		source := strings.Split(before, "\n")
		if err != nil {
			var f *api.Fault
			if !errors.As(err, &f) || f.Line < 1 || f.Line > len(source) || f.Col < 1 || f.Col > len(source[f.Line-1]) {
				t.Fatalf("P10.1: %q: %v", b, err)
			}
			continue
		}
		if len(lines) != len(source) {
			t.Fatalf("P10.1: %q has %d lines", b, len(lines))
		}
		for k, l := range lines {
			for _, x := range l {
				stands := x.Line == k+1 && x.Col >= 1 && x.Scope == 0
				if x.Kind == api.Name {
					stands = stands && strings.HasPrefix(source[k][x.Col-1:], x.Text)
				}
				if !stands {
					t.Fatalf("P10.2: %q: %v", b, x)
				}
			}
		}
	}
}
