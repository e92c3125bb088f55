package emit_test

import (
	"bytes"
	"encoding/hex"
	"errors"
	"math"
	"math/rand"
	"strings"
	"testing"

	"typecase/api"
	"typecase/emit"
	"typecase/enc"
	"typecase/eval"
	"typecase/ins"
	"typecase/press"
	"typecase/relax"
	"typecase/slim"
	"typecase/span"
	"typecase/wide"
)

const last = 1<<32 - 1

var syms = []eval.Symbol{{Name: "x", Value: 1100, Class: eval.Place}, {Name: "n", Value: 7}, {Name: "x", Value: 4}, {Name: "m", Value: last}, {Name: "up", Value: 1 << 20}}

func num(n uint32) []api.Node    { return []api.Node{{Kind: api.Num, Line: 8, Col: 9, Num: n}} }
func sym(s string) []api.Node    { return []api.Node{{Kind: api.Sym, Line: 8, Col: 9, Name: s}} }
func node(kind int) []api.Node   { return []api.Node{{Kind: kind, Line: 8, Col: 9}} }
func text(b []byte) string       { return strings.ToUpper(hex.EncodeToString(b)) }
func placed(i api.Item) api.Item { i.Line, i.Col = 3, 4; return i }

func TestItem(t *testing.T) {
	beqz := api.Ins{Op: api.Beq, Rs1: 8}
	branch := api.Item{Kind: api.Branch, Name: "x", Ins: beqz, Grow: true, Rvc: true}
	bnez := branch
	bnez.Ins.Op = api.Bne
	jump := api.Item{Kind: api.Jump, Name: "x", Grow: true, Rvc: true}
	jal := jump
	jal.Ins.Rd = 1
	call := api.Item{Kind: api.Far, Name: "x", Ins: api.Ins{Rd: 1, Rs1: 1}, Grow: true, Rvc: true}
	tail := api.Item{Kind: api.Far, Name: "x", Ins: api.Ins{Rs1: 6}}
	addi := api.Ins{Op: api.Addi, Rd: 10, Rs1: 10}
	noBranch := api.Item{Kind: api.Branch, Name: "x", Ins: addi}
	for _, c := range []struct {
		name     string
		i        api.Item
		size     int
		at, next uint32
		want     string
	}{
		{"here", api.Item{Kind: api.Here, Name: "x"}, 0, 0, 9, ""}, {"bytes", api.Item{Kind: api.Bytes, Name: "a\x00\xff"}, 0, 0, 99, "6100FF"}, {"no bytes", api.Item{Kind: api.Bytes}, 0, 0, 0, ""},
		{"align", api.Item{Kind: api.Align, Num: 4}, 0, 5, 8, "000000"}, {"org", api.Item{Kind: api.Org, Num: 4}, 0, last, 1, "0000"}, {"align, none missing", api.Item{Kind: api.Align}, 0, 8, 8, ""},
		{"fixed", api.Item{Kind: api.Fixed, Ins: api.Ins{Op: api.Addi, Rd: 1, Imm: 5}, Size: 4}, 0, 0, 0, "93005000"}, {"short", api.Item{Kind: api.Fixed, Ins: api.Ins{Op: api.Addi, Rd: 10, Imm: 5}, Short: "c.li", Size: 2}, 0, 0, 0, "1545"}, {"short by its name alone", api.Item{Kind: api.Fixed, Ins: api.Ins{Op: api.Addi}, Short: "c.nop"}, 0, 0, 0, "0100"},
		{"late", api.Item{Kind: api.Late, Ins: addi, Nodes: sym("n")}, 0, 0, 0, "13057500"}, {"late, below 0", api.Item{Kind: api.Late, Ins: addi, Nodes: sym("m")}, 0, 0, 0, "1305F5FF"}, {"late short", api.Item{Kind: api.Late, Ins: addi, Nodes: sym("n"), Short: "c.addi", Size: 2}, 0, 0, 0, "1D05"},
		{"late, in place of its number", api.Item{Kind: api.Late, Ins: api.Ins{Op: api.Addi, Rd: 10, Rs1: 10, Imm: 99999}, Nodes: num(7)}, 0, 0, 0, "13057500"},
		{"late upper", api.Item{Kind: api.Late, Ins: api.Ins{Op: api.Lui, Rd: 10}, Nodes: num(0xFFFFF), Num: 1}, 0, 0, 0, "37F5FFFF"}, {"late upper short", api.Item{Kind: api.Late, Ins: api.Ins{Op: api.Lui, Rd: 10}, Nodes: num(0xFFFFF), Num: 1, Short: "c.lui"}, 0, 0, 0, "7D75"},
		{"late target", api.Item{Kind: api.Late, Ins: api.Ins{Op: api.Jal}, Nodes: node(api.Dot), Num: 2}, 0, 64, 0, "6F000000"}, {"late target behind", api.Item{Kind: api.Late, Ins: api.Ins{Op: api.Jal}, Nodes: sym("x"), Num: 2}, 0, 1096, 0, "6F004000"}, {"late short target", api.Item{Kind: api.Late, Ins: api.Ins{Op: api.Jal}, Nodes: sym("x"), Num: 2, Short: "c.j"}, 0, 1102, 0, "FDBF"},
		{"branch, 4 bytes", branch, 4, 100, 0, "6304043E"}, {"branch, 2 bytes", branch, 2, 1092, 0, "01C4"}, {"bnez, 2 bytes", bnez, 2, 1092, 0, "01E4"}, {"branch, 8 bytes", branch, 8, 1100, 0, "631404006FF0DFFF"}, {"bnez, 8 bytes", bnez, 8, 1092, 0, "630404006F004000"},
		{"a branch that is none", noBranch, 4, 1096, 0, "13054500"},
		{"jump, 2 bytes", jump, 2, 1100, 0, "01A0"}, {"jal, 2 bytes", jal, 2, 1102, 0, "FD3F"}, {"jump, 4 bytes", jump, 4, 1096, 0, "6F004000"}, {"jal, 4 bytes", jal, 4, 1096, 0, "EF004000"}, {"a jump by Rd alone", api.Item{Kind: api.Jump, Name: "x", Ins: api.Ins{Op: 99, Rd: 5, Rs1: 77, Imm: 9}}, 4, 1096, 0, "EF024000"},
		{"call, 2 bytes", call, 2, 1102, 0, "FD3F"}, {"call, 4 bytes", call, 4, 1096, 0, "EF004000"}, {"call, 8 bytes", call, 8, 1096, 0, "97000000E7804000"}, {"tail, 8 bytes", tail, 8, 1104, 0, "170300006700C3FF"}, {"tail, far", tail, 8, 1100 - 0x12345800 + 1<<32, 0, "1763341267000380"},
		{"addr", api.Item{Kind: api.Addr, Ins: api.Ins{Rd: 10}, Nodes: sym("x")}, 0, 100, 0, "170500001305853E"}, {"addr of a number", api.Item{Kind: api.Addr, Ins: api.Ins{Rd: 10}, Nodes: num(0x800)}, 0, 0, 0, "1715000013050580"},
		{"byte", api.Item{Kind: api.Data, Nodes: num(255), Size: 1}, 0, 0, 0, "FF"}, {"byte, below 0", api.Item{Kind: api.Data, Nodes: num(last - 127), Size: 1}, 0, 0, 0, "80"}, {"half", api.Item{Kind: api.Data, Nodes: num(0x1234), Size: 2}, 0, 0, 0, "3412"}, {"half, most", api.Item{Kind: api.Data, Nodes: num(65535), Size: 2}, 0, 0, 0, "FFFF"}, {"half, below 0", api.Item{Kind: api.Data, Nodes: num(last - 32767), Size: 2}, 0, 0, 0, "0080"},
		{"word", api.Item{Kind: api.Data, Nodes: sym("x"), Size: 4}, 0, 0, 0, "4C040000"}, {"word of a place", api.Item{Kind: api.Data, Nodes: node(api.Dot), Size: 7}, 0, 0x12345678, 0, "78563412"}, {"word, most", api.Item{Kind: api.Data, Nodes: num(last)}, 0, 0, 0, "FFFFFFFF"},
	} {
		got, err := emit.Item(placed(c.i), c.size, c.at, c.next, syms)
		if text(got) != c.want || err != nil {
			t.Errorf("P21.1: %s: %s, %v, want %s", c.name, text(got), err, c.want)
		}
	}
	gap, err := emit.Item(api.Item{Kind: api.Align}, 0, last, api.MaxImage-1, nil)
	if !bytes.Equal(gap, make([]byte, api.MaxImage)) || err != nil {
		t.Errorf("P21.1: the greatest gap: %d bytes, %v", len(gap), err)
	}
}

func checkFault(t *testing.T, what string, err error, line, col int, code api.Code) {
	t.Helper()
	var f *api.Fault
	if !errors.As(err, &f) || f.Line != line || f.Col != col || !errors.Is(err, code) {
		t.Errorf("%s: %v, want %d:%d: %v", what, err, line, col, code)
	}
}

func TestItemFaults(t *testing.T) {
	addi := api.Ins{Op: api.Addi, Rd: 10, Rs1: 10}
	beqz := api.Ins{Op: api.Beq, Rs1: 8}
	for _, c := range []struct {
		name      string
		i         api.Item
		size      int
		at, next  uint32
		line, col int
		code      api.Code
	}{
		{"no kind", api.Item{}, 0, 0, 0, 3, 4, api.Range}, {"a kind that there isn't", api.Item{Kind: 12, Nodes: sym("z"), Name: "z"}, 0, 0, 0, 3, 4, api.Range}, {"a kind below 0", api.Item{Kind: -1}, 0, 0, 0, 3, 4, api.Range},
		{"a great align", api.Item{Kind: api.Align}, 0, 5, 5 + api.MaxImage + 1, 3, 4, api.Range}, {"an org backwards", api.Item{Kind: api.Org}, 0, 8, 7, 3, 4, api.Range},
		{"fixed that may not be", api.Item{Kind: api.Fixed, Ins: api.Ins{Op: api.Addi, Imm: 2048}}, 0, 0, 0, 3, 4, api.Range}, {"no instruction", api.Item{Kind: api.Fixed}, 0, 0, 0, 3, 4, api.Range}, {"a short that doesn't fit", api.Item{Kind: api.Fixed, Ins: addi, Short: "c.li"}, 0, 0, 0, 3, 4, api.Range}, {"no short", api.Item{Kind: api.Fixed, Ins: addi, Short: "addi"}, 0, 0, 0, 3, 4, api.Range},
		{"late undefined", api.Item{Kind: api.Late, Ins: addi, Nodes: sym("z")}, 0, 0, 0, 8, 9, api.Undef}, {"late without nodes", api.Item{Kind: api.Late, Ins: addi}, 0, 0, 0, 0, 0, api.BadExpr}, {"late too great", api.Item{Kind: api.Late, Ins: addi, Nodes: num(2048)}, 0, 0, 0, 3, 4, api.Range}, {"late upper too great", api.Item{Kind: api.Late, Ins: api.Ins{Op: api.Lui}, Nodes: num(1 << 20), Num: 1}, 0, 0, 0, 3, 4, api.Range}, {"late odd", api.Item{Kind: api.Late, Ins: api.Ins{Op: api.Jal}, Nodes: num(3), Num: 2}, 0, 0, 0, 3, 4, api.Range}, {"late of no sort", api.Item{Kind: api.Late, Ins: addi, Nodes: num(1), Num: 3}, 0, 0, 0, 3, 4, api.Range}, {"late of no sort, undefined", api.Item{Kind: api.Late, Ins: addi, Nodes: sym("z"), Num: 3}, 0, 0, 0, 8, 9, api.Undef}, {"late short too great", api.Item{Kind: api.Late, Ins: addi, Nodes: num(32), Short: "c.addi"}, 0, 0, 0, 3, 4, api.Range}, {"late upper for what has none", api.Item{Kind: api.Late, Ins: addi, Nodes: num(1), Num: 1}, 0, 0, 0, 3, 4, api.Range},
		{"branch undefined", api.Item{Kind: api.Branch, Name: "z", Ins: beqz}, 4, 0, 0, 3, 4, api.Undef}, {"jump undefined", api.Item{Kind: api.Jump, Name: "z", Nodes: num(1)}, 77, 0, 0, 3, 4, api.Undef}, {"far undefined", api.Item{Kind: api.Far}, 8, 0, 0, 3, 4, api.Undef},
		{"branch without a size", api.Item{Kind: api.Branch, Name: "x", Ins: beqz}, 0, 1100, 0, 3, 4, api.Range}, {"branch too far", api.Item{Kind: api.Branch, Name: "up", Ins: beqz, Grow: true}, 4, 0, 0, 3, 4, api.Range}, {"branch odd", api.Item{Kind: api.Branch, Name: "x", Ins: beqz}, 4, 1, 0, 3, 4, api.Range}, {"branch with a size that it may not have", api.Item{Kind: api.Branch, Name: "x", Ins: beqz, Grow: true}, 2, 1100, 0, 3, 4, api.Range},
		{"the other way round of none", api.Item{Kind: api.Branch, Name: "x", Ins: addi, Grow: true}, 8, 1100, 0, 3, 4, api.Range}, {"a branch with Rd", api.Item{Kind: api.Branch, Name: "x", Ins: api.Ins{Op: api.Beq, Rs1: 8, Rd: 1}, Grow: true, Rvc: true}, 2, 1100, 0, 3, 4, api.Range}, {"a branch of register 32", api.Item{Kind: api.Branch, Name: "x", Ins: api.Ins{Op: api.Blt, Rs1: 32}, Grow: true}, 8, 1100, 0, 3, 4, api.Range},
		{"jump too far", api.Item{Kind: api.Jump, Name: "up"}, 4, 0, 0, 3, 4, api.Range}, {"jump, 2 bytes, another register", api.Item{Kind: api.Jump, Name: "x", Ins: api.Ins{Rd: 5}, Grow: true, Rvc: true}, 2, 1100, 0, 3, 4, api.Range}, {"jump, register 32", api.Item{Kind: api.Jump, Name: "x", Ins: api.Ins{Rd: 32}}, 4, 1100, 0, 3, 4, api.Range},
		{"far odd", api.Item{Kind: api.Far, Name: "n"}, 8, 0, 0, 3, 4, api.Range}, {"far, a register that there isn't", api.Item{Kind: api.Far, Name: "x", Ins: api.Ins{Rs1: -1}}, 8, 0, 0, 3, 4, api.Range}, {"far with 4 bytes, still", api.Item{Kind: api.Far, Name: "x"}, 4, 1100, 0, 3, 4, api.Range},
		{"addr undefined", api.Item{Kind: api.Addr, Nodes: sym("z")}, 0, 0, 0, 8, 9, api.Undef}, {"addr, register 32", api.Item{Kind: api.Addr, Ins: api.Ins{Rd: 32}, Nodes: num(1)}, 0, 0, 0, 3, 4, api.Range},
		{"byte too great", api.Item{Kind: api.Data, Nodes: num(256), Size: 1}, 0, 0, 0, 3, 4, api.Range}, {"byte too small", api.Item{Kind: api.Data, Nodes: num(last - 128), Size: 1}, 0, 0, 0, 3, 4, api.Range}, {"half too great", api.Item{Kind: api.Data, Nodes: num(65536), Size: 2}, 0, 0, 0, 3, 4, api.Range}, {"half too small", api.Item{Kind: api.Data, Nodes: num(last - 32768), Size: 2}, 0, 0, 0, 3, 4, api.Range}, {"data undefined", api.Item{Kind: api.Data, Nodes: sym("z")}, 0, 0, 0, 8, 9, api.Undef}, {"data by 0", api.Item{Kind: api.Data, Nodes: append(append(num(1), num(0)...), node(api.Over)...)}, 0, 0, 0, 8, 9, api.Range}, {"data of a class that may not be", api.Item{Kind: api.Data, Nodes: append(sym("x"), node(api.Neg)...)}, 0, 0, 0, 8, 9, api.BadClass},
	} {
		got, err := emit.Item(placed(c.i), c.size, c.at, c.next, syms)
		checkFault(t, "P21.1: "+c.name, err, c.line, c.col, c.code)
		if got != nil {
			t.Errorf("P21.1: %s: %v beside an error", c.name, got)
		}
	}
}

func TestAll(t *testing.T) {
	items := []api.Item{
		{Kind: api.Here, Name: "a"}, {Kind: api.Jump, Name: "b", Grow: true, Rvc: true}, {Kind: api.Bytes, Name: "xyz"}, {Kind: api.Align, Num: 4}, {Kind: api.Here, Name: "b"}, {Kind: api.Data, Nodes: sym("n"), Size: 1}, {Kind: api.Data, Nodes: sym("a"), Size: 2}, {Kind: api.Data, Nodes: sym("x")},
	}
	l, err := relax.Relax(items, syms, 64)
	if err != nil {
		t.Fatal(err)
	}
	got, errs := emit.All(items, l, syms)
	if text(got) != "21A078797A000000074000"+"4C040000" || len(errs) > 0 {
		t.Errorf("P21.2: %s, %v", text(got), errs)
	}
	// Of one name the symbols count ahead of the labels.
	l.Labels[0] = eval.Symbol{Name: "n", Value: 99}
	if got, errs := emit.All(items[5:6], l, syms); text(got) != "07" || len(errs) > 0 {
		t.Errorf("P21.2: %s, %v", text(got), errs)
	}
	gap := []api.Item{{Kind: api.Align, Num: 4}, {Kind: api.Bytes, Name: "ab"}, {Kind: api.Org, Num: 3}, {Kind: api.Bytes, Name: "c"}}
	if got, errs := emit.All(gap, relax.Layout{At: []uint32{2, 4, 6, 7, 8}}, nil); text(got) != "00006162"+"0063" || len(errs) > 0 {
		t.Errorf("P21.2: gaps: %s, %v", text(got), errs)
	}
	if got, errs := emit.All(nil, relax.Layout{}, nil); len(got) > 0 || len(errs) > 0 {
		t.Errorf("P21.2: nothing: %v, %v", got, errs)
	}
}

func TestAllFaults(t *testing.T) {
	items := []api.Item{
		{Kind: api.Data, Nodes: sym("z"), Line: 1, Col: 1}, {Kind: api.Here, Name: "y"}, {Kind: api.Jump, Name: "z", Line: 2, Col: 5}, {Kind: api.Data, Nodes: num(256), Size: 1, Line: 3, Col: 6}, {Kind: api.Bytes, Name: "q"}, {Line: 4, Col: 7},
	}
	got, errs := emit.All(items, relax.Layout{At: []uint32{0, 4, 4, 8, 9, 10, 10}}, syms)
	if got != nil || len(errs) != 4 {
		t.Fatalf("P21.2: %v, %v", got, errs)
	}
	checkFault(t, "P21.2: first", errs[0], 8, 9, api.Undef)
	checkFault(t, "P21.2: second", errs[1], 2, 5, api.Undef)
	checkFault(t, "P21.2: third", errs[2], 3, 6, api.Range)
	checkFault(t, "P21.2: fourth", errs[3], 4, 7, api.Range)
	// Addresses and sizes that are missing are 0.
	jump := []api.Item{{Kind: api.Jump, Name: "x", Line: 1, Col: 2}}
	_, errs = emit.All(jump, relax.Layout{}, syms)
	if len(errs) != 1 {
		t.Fatal(errs)
	}
	checkFault(t, "P21.2: no size", errs[0], 1, 2, api.Range)
	got, errs = emit.All(jump, relax.Layout{Sizes: []int{4}}, syms)
	if text(got) != "6F00C044" || len(errs) > 0 {
		t.Errorf("P21.2: no address: %s, %v", text(got), errs)
	}
	got, errs = emit.All([]api.Item{{Kind: api.Align}}, relax.Layout{At: []uint32{last - 1}}, nil)
	if text(got) != "0000" || len(errs) > 0 {
		t.Errorf("P21.2: no next address: %s, %v", text(got), errs)
	}
}

// decoded is the machine's instruction at a place of bytes, and how many bytes it has.
func decoded(b []byte, at int) (api.Ins, int) {
	h := uint16(b[at]) | uint16(b[at+1])<<8
	if h&3 != 3 {
		i, _ := slim.Expand(h)
		return i, 2
	}
	i, _ := wide.Decode(uint32(h) | uint32(b[at+2])<<16 | uint32(b[at+3])<<24)
	return i, 4
}

func TestMeantInstructions(t *testing.T) {
	r := rand.New(rand.NewSource(21))
	for range 20000 {
		w := r.Uint32()&^0x7f | []uint32{0x37, 0x6f, 0x63, 0x03, 0x23, 0x13, 0x33}[r.Intn(7)]
		i, ok := enc.Get(w)
		if !ok {
			continue
		}
		b, err := emit.Item(api.Item{Kind: api.Fixed, Ins: i, Size: 4}, 0, 0, 0, nil)
		if err != nil {
			t.Fatal(err)
		}
		if got, _ := decoded(b, 0); got != i {
			t.Fatalf("P21.3: %v is put as %v", i, got)
		}
	}
	for k := range 1 << 16 {
		name, i, ok := press.Get(uint16(k))
		if !ok {
			continue
		}
		b, err := emit.Item(api.Item{Kind: api.Fixed, Ins: i, Short: name}, 0, 0, 0, nil)
		if err != nil {
			t.Fatal(err)
		}
		if got, size := decoded(b, 0); got != i || size != 2 {
			t.Fatalf("P21.3: %v, as %s, is put as %v", i, name, got)
		}
	}
}

// target is where a Branch that goes, a Jump, or a Far leads by its bytes, at an address.
func target(t *testing.T, b []byte, at uint32) uint32 {
	t.Helper()
	first, size := decoded(b, 0)
	switch {
	case first.Op == api.Auipc:
		second, _ := decoded(b, 4)
		if second.Op != api.Jalr || second.Rs1 != first.Rd {
			t.Fatalf("P21.3: %v, %v", first, second)
		}
		return (at + uint32(first.Imm) + uint32(second.Imm)) &^ 1
	case len(b) == 8:
		second, _ := decoded(b, 4)
		if ins.FormOf(first.Op) != ins.Branch || first.Imm != 8 || second.Op != api.Jal || second.Rd != 0 {
			t.Fatalf("P21.3: %v, %v", first, second)
		}
		return at + 4 + uint32(second.Imm)
	case size != len(b):
		t.Fatalf("P21.3: %d of %d bytes", size, len(b))
	}
	return at + uint32(first.Imm)
}

func TestLeadToTheTarget(t *testing.T) {
	var items []api.Item
	for op := api.Beq; op <= api.Bgeu; op++ {
		for _, rs2 := range []int{0, 3} {
			items = append(items, api.Item{Kind: api.Branch, Name: "t", Ins: api.Ins{Op: op, Rs1: 9, Rs2: rs2}, Grow: true, Rvc: true})
		}
	}
	for rd := range 2 {
		items = append(items, api.Item{Kind: api.Jump, Name: "t", Ins: api.Ins{Op: api.Jal, Rd: rd}, Grow: true, Rvc: true},
			api.Item{Kind: api.Far, Name: "t", Ins: api.Ins{Rd: rd, Rs1: 6 - 5*rd}, Grow: true, Rvc: true})
	}
	for _, i := range items {
		for _, size := range span.Classes(i) {
			for _, far := range []int32{0, 2, -2, 254, -256, 2046, -2048, 4094, -4096, 4096, 1<<20 - 2, -1 << 20, 1<<20 + 2, -1<<20 + 4, 0x12345678, -0x12345678, math.MinInt32, math.MaxInt32 - 1, 0x7FFFF7FE, 0x7FFFF800} {
				const at = 0x4000
				to := at + uint32(far)
				b, err := emit.Item(i, size, at, 0, []eval.Symbol{{Name: "t", Value: to}})
				if reached := span.Reaches(i, size, far); reached != (err == nil) {
					t.Fatalf("P21.1: %v with %d bytes, %d: %v", i, size, far, err)
				}
				if err != nil {
					continue
				}
				if len(b) != size || target(t, b, at) != to {
					t.Fatalf("P21.3: %v with %d bytes, %d: %s", i, size, far, text(b))
				}
			}
		}
	}
}
