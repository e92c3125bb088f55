package expr_test

import (
	"errors"
	"math/rand"
	"slices"
	"strconv"
	"strings"
	"testing"

	"typecase/api"
	"typecase/expr"
	"typecase/lex"
)

// tokens are those of a line, whose Locals have the scope 7.
func tokens(t *testing.T, src string) []api.Token {
	t.Helper()
	lines, err := lex.Lines([]byte(src))
	if err != nil {
		t.Fatalf("%q: %v", src, err)
	}
	for k := range lines[0] {
		if lines[0][k].Kind == api.Local {
			lines[0][k].Scope = 7
		}
	}
	return lines[0]
}

var kinds = strings.Fields("? num sym dot neg not high low rel + - * / << >> & ^ |")

// told is the nodes as a text: each with its column.
func told(l []api.Node) string {
	var words []string
	for _, n := range l {
		w := kinds[n.Kind]
		switch n.Kind {
		case api.Num:
			w = strconv.Itoa(int(n.Num))
		case api.Sym:
			w = n.Name
		}
		words = append(words, w+":"+strconv.Itoa(n.Col))
	}
	return strings.Join(words, " ")
}

func TestParse(t *testing.T) {
	for _, c := range []struct {
		src, want string
		behind    int
	}{
		{"1", "1:1", 0}, {".", "dot:1", 0}, {"x", "x:1", 0}, {"@x", "x@7:1", 0}, {".x", ".x:1", 0}, {"'a'", "97:1", 0},
		{"1+2*-x", "1:1 2:3 x:6 neg:5 *:4 +:2", 0},
		{"1-2-3", "1:1 2:3 -:2 3:5 -:4", 0},
		{"8/4*2/3", "8:1 4:3 /:2 2:5 *:4 3:7 /:6", 0},
		{"1<<2>>3", "1:1 2:4 <<:2 3:7 >>:5", 0},
		{"1|2^3&4<<5+6*7", "1:1 2:3 3:5 4:7 5:10 6:12 7:14 *:13 +:11 <<:8 &:6 ^:4 |:2", 0},
		{"1*2+3<<4&5^6|7", "1:1 2:3 *:2 3:5 +:4 4:8 <<:6 5:10 &:9 6:12 ^:11 7:14 |:13", 0},
		{"1^2^3|4|5&6&7", "1:1 2:3 ^:2 3:5 ^:4 4:7 |:6 5:9 6:11 &:10 7:13 &:12 |:8", 0},
		{"-1+2", "1:2 neg:1 2:4 +:3", 0}, {"-~-1", "1:4 neg:3 not:2 neg:1", 0}, {"1--2", "1:1 2:4 neg:3 -:2", 0}, {"1 - ~x", "1:1 x:6 not:5 -:3", 0},
		{"-1*2", "1:2 neg:1 2:4 *:3", 0}, {"-(1+2)", "1:3 2:5 +:4 neg:1", 0},
		{"(1)", "1:2", 0}, {"((1+2))*3", "1:3 2:5 +:4 3:9 *:8", 0}, {"1-(2-3)", "1:1 2:4 3:6 -:5 -:2", 0},
		{"%hi(x)", "x:5 high:1", 0}, {"%lo(x+1)+2", "x:5 1:7 +:6 low:1 2:10 +:9", 0}, {"-%pcrel((x))", "x:10 rel:2 neg:1", 0},
		{"1, 2", "1:1", 2}, {"1 2", "1:1", 1}, {"1(sp)", "1:1", 3}, {"1)", "1:1", 1}, {"x: y", "x:1", 2}, {"1 = 2", "1:1", 2}, {"1 ~2", "1:1", 2}, {`1 "a"`, "1:1", 1}, {`1 \a`, "1:1", 1}, {"1 %hi(2)", "1:1", 4},
	} {
		l := tokens(t, c.src)
		before := slices.Clone(l)
		nodes, behind, err := expr.Parse(l)
		if err != nil || told(nodes) != c.want || !slices.Equal(behind, l[len(l)-c.behind:]) {
			t.Errorf("P11.1: %q: %s, %d behind, %v", c.src, told(nodes), len(behind), err)
		}
		if !slices.Equal(l, before) {
			t.Errorf("%q is changed", c.src)
		}
		for _, n := range nodes {
			if n.Line != 1 || n.Kind != api.Num && n.Num != 0 || n.Kind != api.Sym && n.Name != "" {
				t.Errorf("P11.1: %q: %v", c.src, n)
			}
		}
	}
}

func checkFault(t *testing.T, what string, err error, line, col int, code api.Code) {
	t.Helper()
	var f *api.Fault
	if !errors.As(err, &f) || f.Line != line || f.Col != col || !errors.Is(err, code) {
		t.Errorf("P11.1: %s: %v, want %d:%d: %v", what, err, line, col, code)
	}
}

func TestFaults(t *testing.T) {
	for _, c := range []struct {
		src string
		col int
	}{
		{",", 1}, {"+1", 1}, {"*", 1}, {")", 1}, {"()", 2}, {`"a"`, 1}, {`\a`, 1}, {":", 1}, {"=", 1}, {"<<", 1},
		{"1+", 2}, {"1+,", 3}, {"1+*2", 3}, {"1*(", 3}, {"(1", 2}, {"(1,2)", 3}, {"(1 2)", 4}, {"((1)", 4}, {"(x:", 3}, {"-", 1}, {"--", 2}, {"-)", 2},
		{"%hi", 1}, {"%hi x", 5}, {"%hi)", 4}, {"%hi(", 4}, {"%hi()", 5}, {"%hi(1", 5}, {"%hi(1,2)", 6}, {"%hi %lo(1)", 5}, {"1 + %lo -", 9},
	} {
		nodes, behind, err := expr.Parse(tokens(t, c.src))
		checkFault(t, c.src, err, 1, c.col, api.BadExpr)
		if nodes != nil || behind != nil {
			t.Errorf("P11.1: %q: %v, %v beside an error", c.src, nodes, behind)
		}
	}
	_, _, err := expr.Parse(nil)
	checkFault(t, "nothing", err, 0, 0, api.BadExpr)
	for _, k := range []int{0, -1, 8, 99} {
		_, _, err = expr.Parse([]api.Token{{Kind: k, Line: 5, Col: 6, Text: "-"}, {Kind: api.Number, Line: 5, Col: 7}})
		checkFault(t, "a kind that there isn't", err, 5, 6, api.BadExpr)
	}
}

func TestDeep(t *testing.T) {
	const most = api.MaxDepth
	nested := func(open, shut string, n int) string { return strings.Repeat(open, n) + "1" + strings.Repeat(shut, n) }
	for _, c := range []struct {
		src  string
		code api.Code // 0: nothing is wrong
		col  int
	}{
		{nested("-", "", most), 0, 0}, {nested("-", "", most+1), api.Deep, most + 1}, {nested("~", "", most+1), api.Deep, most + 1},
		{nested("(", ")", most), 0, 0}, {nested("(", ")", most+1), api.Deep, most + 1},
		{nested("%hi(", ")", most), 0, 0}, {nested("%hi(", ")", most+1), api.Deep, 4*most + 1},
		{nested("-(", ")", most/2), 0, 0}, {nested("-(", ")", most/2) + "+-(1)", 0, 0}, {"-" + nested("-(", ")", most/2), api.Deep, most + 1},
		{nested("(-", ")", most/2), 0, 0}, {nested("(-1+-", ")", most/2) + "-(-(1))", 0, 0},
		{nested("-", "", most) + "+" + nested("-", "", most), 0, 0},
		{nested("-", "", most) + "+" + nested("-", "", most+1), api.Deep, 2*most + 3},
		{nested("(", "", most-1) + "+-1-(-1)", api.Deep, most + 6},
		{strings.Repeat("(", most) + "-", api.Deep, most + 1}, {strings.Repeat("(", most) + ",", api.BadExpr, most + 1},
		{strings.Repeat("-", most) + "%hi", api.Deep, most + 1}, {strings.Repeat("-", most) + "%hi(1)", api.Deep, most + 1},
		{strings.Repeat("-", most-1) + "%hi((1))", api.Deep, most + 4}, {strings.Repeat("-", most-1) + "%hi(1)", 0, 0},
		{strings.Repeat("-", most) + "x(", 0, 0}, {"%hi(1," + strings.Repeat("-", 99), api.BadExpr, 6},
	} {
		_, _, err := expr.Parse(tokens(t, c.src))
		if c.code != 0 {
			checkFault(t, c.src, err, 1, c.col, c.code)
		} else if err != nil {
			t.Errorf("P11.1: %s: %v", c.src, err)
		}
	}
}

// grown is a random expression whose parts are bound at least so tightly, as a text, and its nodes, in order.
func grown(r *rand.Rand, least, deep int) (text, nodes string) {
	marks := []string{1: "|", 2: "^", 3: "&", 4: "<< >>", 5: "+ -", 6: "* /"}
	tight := least + r.Intn(9-least)
	switch {
	case deep == 0 || tight == 8 && r.Intn(2) == 0:
		leaf := []string{"1", "x", ".y", "31"}[r.Intn(4)]
		return leaf, leaf + " "
	case tight == 8:
		inside, nodes := grown(r, 1, deep-1)
		ahead := []string{"", "%hi", "%lo", "%pcrel"}[r.Intn(4)]
		return ahead + "(" + inside + ")", nodes + map[string]string{"%hi": "high ", "%lo": "low ", "%pcrel": "rel "}[ahead]
	case tight == 7:
		text, nodes := grown(r, 7, deep-1)
		if r.Intn(2) == 0 {
			return "-" + text, nodes + "neg "
		}
		return "~" + text, nodes + "not "
	}
	left, first := grown(r, tight, deep-1)
	right, second := grown(r, tight+1, deep-1)
	choice := strings.Fields(marks[tight])
	mark := choice[r.Intn(len(choice))]
	return left + " " + mark + " " + right, first + second + mark + " "
}

func TestGrown(t *testing.T) {
	r := rand.New(rand.NewSource(11))
	for range 3000 {
		src, want := grown(r, 1, 7)
		nodes, behind, err := expr.Parse(tokens(t, src+", 5"))
		var got strings.Builder
		for _, n := range nodes {
			got.WriteString(strings.SplitN(told([]api.Node{n}), ":", 2)[0] + " ")
		}
		if err != nil || got.String() != want || len(behind) != 2 {
			t.Fatalf("P11.1: %s: %s, want %s: %v", src, got.String(), want, err)
		}
	}
}

func TestSymbol(t *testing.T) {
	for _, c := range []struct {
		t    api.Token
		want string
	}{
		{api.Token{Kind: api.Name, Text: "a.b"}, "a.b"}, {api.Token{Kind: api.Name, Text: "."}, "."}, {api.Token{Kind: api.Name, Text: "x", Scope: 5}, "x"},
		{api.Token{Kind: api.Local, Text: "l"}, "l@0"}, {api.Token{Kind: api.Local, Text: "l", Scope: 12}, "l@12"}, {api.Token{Kind: api.Local, Text: "l", Scope: -3}, "l@-3"},
		{api.Token{Kind: api.Param, Text: "p"}, ""}, {api.Token{Kind: api.Text, Text: "p"}, ""}, {api.Token{Kind: api.Func, Text: "hi"}, ""}, {api.Token{Text: "p"}, ""},
	} {
		if got := expr.Symbol(c.t); got != c.want {
			t.Errorf("P11.2: %v: %q", c.t, got)
		}
	}
}
