package macro_test

import (
	"errors"
	"slices"
	"strconv"
	"strings"
	"testing"

	"typecase/api"
	"typecase/lex"
	"typecase/macro"
)

func lines(t *testing.T, src string) [][]api.Token {
	t.Helper()
	l, err := lex.Lines([]byte(strings.ReplaceAll(src, ";", "\n")))
	if err != nil {
		t.Fatal(err)
	}
	return l
}

func tokens(t *testing.T, src string) []api.Token {
	t.Helper()
	return lines(t, src)[0]
}

// told is tokens as a text.
func told(l []api.Token) string {
	var words []string
	for _, t := range l {
		switch t.Kind {
		case api.Number:
			words = append(words, strconv.Itoa(int(t.Num)))
		case api.Param:
			words = append(words, `\`+t.Text)
		case api.Local:
			words = append(words, "@"+t.Text)
		default:
			words = append(words, t.Text)
		}
	}
	return strings.Join(words, " ")
}

func toldAll(l [][]api.Token) string {
	var parts []string
	for _, p := range l {
		parts = append(parts, "["+told(p)+"]")
	}
	return strings.Join(parts, "")
}

func TestParts(t *testing.T) {
	for src, want := range map[string]string{
		"": "", "a": "[a]", "a, b": "[a][b]", ",": "[][]", "a,": "[a][]", ",a": "[][a]", ",,": "[][][]",
		"(x,y), z": "[( x , y )][z]", "((a,b),c),d": "[( ( a , b ) , c )][d]", "), a": "[)][a]", ") (, a": "[) ( , a]", "(a)), b": "[( a ) )][b]", "(a, b": "[( a , b]",
		"a b, 1+2": "[a b][1 + 2]", ")), (a), b": "[) )][( a )][b]", `",", b`: "[,][b]",
	} {
		l := tokens(t, src)
		got := macro.Parts(l)
		if toldAll(got) != want {
			t.Errorf("P14.1: %q: %s, want %s", src, toldAll(got), want)
		}
		for _, p := range got {
			for k := range p {
				p[k] = api.Token{}
			}
		}
		if again := toldAll(macro.Parts(l)); again != want {
			t.Errorf("P14.1: %q: what is told is what was handed in: %s", src, again)
		}
	}
}

// toldHead is a macro's head as a text.
func toldHead(m macro.Macro) string {
	s := m.Name
	for _, p := range m.Params {
		s += " " + p.Name
		if p.Has {
			s += "=[" + told(p.Default) + "]"
		} else if len(p.Default) > 0 {
			s += "?"
		}
	}
	return s
}

func TestHead(t *testing.T) {
	for src, want := range map[string]string{
		".macro m": "m", ".macro m a": "m a", ".macro m a, b=1+2": "m a b=[1 + 2]", ".macro m a=": "m a=[]", ".macro m a=,b": "m a=[] b",
		".macro m a=(b,c),d": "m a=[( b , c )] d", ".macro m a=(b,c": "m a=[( b , c]", ".macro m a=),b": "m a=[)] b", ".macro m a==b, c": "m a=[= b] c",
		"x m": "m", "5 m a": "m a", ".macro _m .a": "_m .a", ".macro a0 a0": "a0 a0", `.macro m a=@l \p "s"`: `m a=[@l \p s]`, ".macro nop": "nop",
	} {
		l := tokens(t, src)
		m, err := macro.Head(l)
		if toldHead(m) != want || err != nil || len(m.Lines) > 0 {
			t.Errorf("P14.1: %q: %s, %v", src, toldHead(m), err)
		}
		for k := range l {
			l[k] = api.Token{}
		}
		if toldHead(m) != want {
			t.Errorf("P14.1: %q: what was handed in is kept", src)
		}
	}
}

func checkFault(t *testing.T, what string, err error, line, col int, code api.Code) {
	t.Helper()
	var f *api.Fault
	if !errors.As(err, &f) || f.Line != line || f.Col != col || !errors.Is(err, code) {
		t.Errorf("%s: %v, want %d:%d: %v", what, err, line, col, code)
	}
}

func TestHeadFaults(t *testing.T) {
	for _, c := range []struct {
		src  string
		col  int
		code api.Code
	}{
		{".macro", 1, api.BadLine}, {".macro 5", 8, api.BadLine}, {".macro @m", 8, api.BadLine}, {".macro ,", 8, api.BadLine}, {`.macro "m"`, 8, api.BadLine}, {`.macro \m`, 8, api.BadLine},
		{".macro .m", 8, api.BadName}, {".macro .", 8, api.BadName}, {".macro .m 5", 8, api.BadName},
		{".macro m 5", 10, api.BadLine}, {".macro m ,", 10, api.BadLine}, {".macro m = 5", 10, api.BadLine}, {".macro m (a)", 10, api.BadLine}, {".macro m: a", 9, api.BadLine},
		{".macro m a,", 11, api.BadLine}, {".macro m a, ,b", 13, api.BadLine}, {".macro m a b", 12, api.BadLine}, {".macro m a (b)", 12, api.BadLine}, {".macro m a, 5", 13, api.BadLine}, {".macro m a, @b", 13, api.BadLine}, {".macro m a:b", 11, api.BadLine},
		{".macro m a=1,", 13, api.BadLine}, {".macro m a=,", 12, api.BadLine}, {".macro m a, b=2, (", 18, api.BadLine},
		{".macro m a, a", 13, api.Twice}, {".macro m a, b, a=5", 16, api.Twice}, {".macro m a, a 5", 13, api.Twice}, {".macro m a=5, a, 5", 15, api.Twice}, {".macro m a 5, a", 12, api.BadLine}, {".macro m a, b c, a", 15, api.BadLine},
	} {
		m, err := macro.Head(tokens(t, c.src))
		checkFault(t, "P14.1: "+c.src, err, 1, c.col, c.code)
		if m.Name != "" || m.Params != nil || m.Lines != nil {
			t.Errorf("P14.1: %q: %v beside an error", c.src, m)
		}
	}
	_, err := macro.Head(nil)
	checkFault(t, "P14.1: nothing", err, 0, 0, api.BadLine)
}

func TestBind(t *testing.T) {
	for _, c := range []struct {
		head, args string
		want       string
		fails      bool
	}{
		{".macro m", "", "", false}, {".macro m", "1", "", true}, {".macro m", ",", "", true},
		{".macro m a", "1", "[1]", false}, {".macro m a", "", "", true}, {".macro m a", "1,", "", true}, {".macro m a", "1,2", "", true},
		{".macro m a, b=1+2", "(x,y),", "[( x , y )][1 + 2]", false}, {".macro m a, b=1+2", "5", "[5][1 + 2]", false}, {".macro m a, b=1+2", "5, 6", "[5][6]", false}, {".macro m a, b=1+2", ", 6", "", true}, {".macro m a, b=1+2", "", "", true},
		{".macro m a=1, b", ", 2", "[1][2]", false}, {".macro m a=1, b", "3", "", true}, {".macro m a=, b=", "", "[][]", false}, {".macro m a=, b=", ",5", "[][5]", false}, {".macro m a=1, b=2", ",,", "", true},
		{".macro m a", "x y z", "[x y z]", false},
	} {
		m, err := macro.Head(tokens(t, c.head))
		if err != nil {
			t.Fatal(err)
		}
		name := api.Token{Kind: api.Name, Line: 7, Col: 8, Text: "m"}
		args := macro.Parts(tokens(t, c.args))
		vals, err := macro.Bind(m, name, args)
		if c.fails {
			checkFault(t, "P14.2: "+c.head+" of "+c.args, err, 7, 8, api.BadArgs)
			if vals != nil {
				t.Errorf("P14.2: %v beside an error", vals)
			}
			continue
		}
		if toldAll(vals) != c.want || err != nil {
			t.Errorf("P14.2: %s of %s: %s, %v", c.head, c.args, toldAll(vals), err)
		}
		for _, v := range vals {
			clear(v)
		}
		if again, _ := macro.Bind(m, name, args); toldAll(again) != c.want {
			t.Errorf("P14.2: %s of %s: what is told is what was handed in", c.head, c.args)
		}
	}
	// A default counts just if it is said that there is one.
	m := macro.Macro{Params: []macro.Param{{Name: "a", Default: []api.Token{{Kind: api.Number}}}}}
	if _, err := macro.Bind(m, api.Token{Line: 1, Col: 2}, nil); !errors.Is(err, api.BadArgs) {
		t.Errorf("P14.2: %v", err)
	}
}

func TestFill(t *testing.T) {
	for _, c := range []struct {
		params, lines string
		vals          []string
		want          string
	}{
		{"a b", `add \a, \b;; x \c @l`, []string{"1 2", "(y)"}, `[add 1 2 , ( y )][][x \c @l]`},
		{"a", `\a\a;\a`, []string{"z"}, "[z z][z]"}, {"a", `\a x`, []string{""}, "[x]"}, {"a b", `\a \b`, []string{"1"}, "[1]"}, {"a b", `\b \a`, nil, "[]"},
		{"a a", `\a`, []string{"1", "2"}, "[1]"}, {"a b", `\a`, []string{`\b \a`, "2"}, `[\b \a]`}, {"", `\a x`, []string{"1"}, `[\a x]`},
		{"a", `a @a "a"`, []string{"1"}, "[a @a a]"}, {"a", "", []string{"1"}, "[]"},
	} {
		m := macro.Macro{Name: "m", Lines: lines(t, c.lines)}
		for _, p := range strings.Fields(c.params) {
			m.Params = append(m.Params, macro.Param{Name: p})
		}
		var vals [][]api.Token
		for _, v := range c.vals {
			vals = append(vals, tokens(t, v))
		}
		got := macro.Fill(m, vals)
		if toldAll(got) != c.want {
			t.Errorf("P14.3: %q of %v: %s, want %s", c.lines, c.vals, toldAll(got), c.want)
		}
		for _, l := range got {
			clear(l)
		}
		if again := toldAll(macro.Fill(m, vals)); again != c.want {
			t.Errorf("P14.3: %q: the answer shares memory: %s", c.lines, again)
		}
	}
}

// TestFilledAsHanded: what is filled in has the places, and the scopes, that it was handed with.
func TestFilledAsHanded(t *testing.T) {
	val := []api.Token{{Kind: api.Local, Line: 9, Col: 4, Text: "l", Scope: 3}, {Kind: api.Number, Line: 9, Col: 6, Num: 8}}
	line := []api.Token{{Kind: api.Name, Line: 2, Col: 1, Text: "j"}, {Kind: api.Param, Line: 2, Col: 3, Text: "p"}, {Kind: api.Local, Line: 2, Col: 5, Text: "l"}}
	m := macro.Macro{Params: []macro.Param{{Name: "p"}}, Lines: [][]api.Token{line}}
	want := []api.Token{line[0], val[0], val[1], line[2]}
	if got := macro.Fill(m, [][]api.Token{val}); len(got) != 1 || !slices.Equal(got[0], want) {
		t.Errorf("P14.4: %v", got)
	}
}
