package lower_test

import (
	"errors"
	"math"
	"math/rand"
	"reflect"
	"strconv"
	"strings"
	"testing"

	"typecase/api"
	"typecase/eval"
	"typecase/ins"
	"typecase/lex"
	"typecase/lower"
	"typecase/press"
	"typecase/stmt"
)

func statement(t *testing.T, src string) api.Stmt {
	t.Helper()
	lines, err := lex.Lines([]byte(src))
	if err != nil {
		t.Fatal(err)
	}
	s, err := stmt.Parse(lines[0])
	if err != nil {
		t.Fatalf("%q: %v", src, err)
	}
	return s
}

var (
	syms = []eval.Symbol{{Name: "five", Value: 5}, {Name: "big", Value: 0x12345678}, {Name: "k", Value: 64}, {Name: "five", Value: 6}}
	both = api.Options{Rvc: true, Relax: true}
	off  = api.Options{}
)

func toldIns(i api.Ins) string {
	s := ins.Name(i.Op)
	for _, n := range []int{i.Rd, i.Rs1, i.Rs2, int(i.Imm)} {
		s += " " + strconv.Itoa(n)
	}
	return s
}

func toldNodes(l []api.Node) string {
	var words []string
	for _, n := range l {
		switch n.Kind {
		case api.Num:
			words = append(words, strconv.Itoa(int(n.Num)))
		case api.Sym:
			words = append(words, n.Name)
		case api.Dot:
			words = append(words, ".")
		default:
			words = append(words, "k"+strconv.Itoa(n.Kind))
		}
	}
	return "[" + strings.Join(words, " ") + "]"
}

// told is an item as a text, without its place.
func told(i api.Item) string {
	s := map[int]string{api.Here: "here", api.Fixed: "fixed", api.Late: "late", api.Branch: "branch", api.Jump: "jump", api.Far: "far",
		api.Addr: "addr", api.Data: "data", api.Bytes: "bytes", api.Align: "align", api.Org: "org"}[i.Kind]
	if i.Name != "" {
		s += " " + strconv.Quote(i.Name)
	}
	if i.Ins != (api.Ins{}) {
		s += " {" + toldIns(i.Ins) + "}"
	}
	if i.Short != "" {
		s += " " + i.Short
	}
	if i.Nodes != nil {
		s += " " + toldNodes(i.Nodes)
	}
	s += " " + strconv.Itoa(i.Size) + " " + strconv.Itoa(int(i.Num))
	if i.Grow {
		s += " grow"
	}
	if i.Rvc {
		s += " rvc"
	}
	return s
}

func toldAll(l []api.Item) string {
	var all []string
	for _, i := range l {
		all = append(all, told(i))
	}
	return strings.Join(all, "; ")
}

// check lowers a line with the options off, and holds it against what is wanted.
func check(t *testing.T, src, want string, o api.Options) {
	t.Helper()
	s := statement(t, src)
	got, behind, err := lower.Lower(s, o, syms)
	if toldAll(got) != want || behind != o || err != nil {
		t.Errorf("P17.1: %q, %v:\n%s, %v, %v, want\n%s", src, o, toldAll(got), behind, err, want)
	}
	for _, i := range got {
		if i.Kind != api.Here && (i.Line != s.Line || i.Col != s.Col) {
			t.Errorf("P17.1: %q: %v", src, i)
		}
	}
	if !reflect.DeepEqual(s, statement(t, src)) {
		t.Errorf("%q: the statement is changed", src)
	}
}

func TestOperations(t *testing.T) {
	for src, want := range map[string]string{
		"lui a0, 0xFFFFF": "lui 10 0 0 -4096", "lui a0, 1": "lui 10 0 0 4096", "auipc t0, 0x80000": "auipc 5 0 0 -2147483648",
		"lb a0, -1(a1)": "lb 10 11 0 -1", "lh a0, (a1)": "lh 10 11 0 0", "lw a0, 2047(a1)": "lw 10 11 0 2047", "lbu a0, five(a1)": "lbu 10 11 0 5", "lhu x1, 'a'(x2)": "lhu 1 2 0 97",
		"jalr ra, 4(t0)": "jalr 1 5 0 4", "jalr t0": "jalr 1 5 0 0",
		"sb a0, -2048(a1)": "sb 0 11 10 -2048", "sh a0, (a1)": "sh 0 11 10 0", "sw a0, k-k(a1)": "sw 0 11 10 0",
		"addi a0, a1, -5": "addi 10 11 0 -5", "slti a0, a1, 5": "slti 10 11 0 5", "sltiu a0, a1, 0xFFFFFFFF": "sltiu 10 11 0 -1", "xori a0, a1, five": "xori 10 11 0 5", "ori a0, a1, %lo(big)": "ori 10 11 0 1656", "andi a0, a1, 15": "andi 10 11 0 15",
		"slli a0, a1, 31": "slli 10 11 0 31", "srli a0, a1, 0": "srli 10 11 0 0", "srai a0, a1, five": "srai 10 11 0 5",
		"fence": "fence 0 0 0 0", "ecall": "ecall 0 0 0 0", "ebreak": "ebreak 0 0 0 0",
		"nop": "addi 0 0 0 0", "mv a0, a1": "add 10 0 11 0", "not a0, a1": "xori 10 11 0 -1", "neg a0, a1": "sub 10 0 11 0", "seqz a0, a1": "sltiu 10 11 0 1", "snez a0, a1": "sltu 10 0 11 0",
		"jr a0": "jalr 0 10 0 0", "ret": "jalr 0 1 0 0",
	} {
		check(t, src, "fixed {"+want+"} 4 0", off)
	}
	for _, name := range strings.Fields("add sub sll slt sltu xor srl sra or and mul mulh mulhsu mulhu div divu rem remu") {
		check(t, name+" a0, s11, t6", "fixed {"+name+" 10 27 31 0} 4 0", off)
	}
}

func TestShorts(t *testing.T) {
	for src, want := range map[string]string{
		"c.addi4spn a0, sp, 16": "addi 10 2 0 16", "c.lw a0, 4(a1)": "lw 10 11 0 4", "c.sw a0, 124(s0)": "sw 0 8 10 124", "c.nop": "addi 0 0 0 0", "c.addi t6, -32": "addi 31 31 0 -32",
		"c.li t6, 31": "addi 31 0 0 31", "c.addi16sp sp, -512": "addi 2 2 0 -512", "c.lui a0, 0xFFFE0": "lui 10 0 0 -131072", "c.srli a0, 1": "srli 10 10 0 1", "c.srai a0, 31": "srai 10 10 0 31", "c.andi a0, -1": "andi 10 10 0 -1",
		"c.sub a0, a1": "sub 10 10 11 0", "c.xor a0, a1": "xor 10 10 11 0", "c.or a0, a1": "or 10 10 11 0", "c.and a0, a1": "and 10 10 11 0", "c.slli ra, five": "slli 1 1 0 5", "c.lwsp ra, 252(sp)": "lw 1 2 0 252",
		"c.jr ra": "jalr 0 1 0 0", "c.mv ra, t6": "add 1 0 31 0", "c.ebreak": "ebreak 0 0 0 0", "c.jalr ra": "jalr 1 1 0 0", "c.add ra, t6": "add 1 1 31 0", "c.swsp zero, (sp)": "sw 0 2 0 0",
	} {
		name, _, _ := strings.Cut(src, " ")
		for _, o := range []api.Options{off, both, {Rvc: true}, {Relax: true}} {
			check(t, src, "fixed {"+want+"} "+name+" 2 0", o)
		}
	}
	for src, want := range map[string]string{
		"c.jal x": "late {jal 1 0 0 0} c.jal [x] 2 2", "c.j five": "late {jal 0 0 0 0} c.j [five] 2 2", "c.beqz a0, .": "late {beq 0 10 0 0} c.beqz [.] 2 2", "c.bnez a5, x": "late {bne 0 15 0 0} c.bnez [x] 2 2",
		"c.addi a0, x-y": "late {addi 10 10 0 0} c.addi [x y k10] 2 0", "c.lui a0, %hi(x)": "late {lui 10 0 0 0} c.lui [x k6] 2 1", "c.lw a0, x-y(a1)": "late {lw 10 11 0 0} c.lw [x y k10] 2 0", "c.addi16sp sp, x": "late {addi 2 2 0 0} c.addi16sp [x] 2 0",
		"c.addi4spn a0, sp, x": "late {addi 10 2 0 0} c.addi4spn [x] 2 0", "c.slli t6, x": "late {slli 31 31 0 0} c.slli [x] 2 0", "c.srai a0, x": "late {srai 10 10 0 0} c.srai [x] 2 0", "c.li t6, x": "late {addi 31 0 0 0} c.li [x] 2 0",
	} {
		check(t, src, want, off)
		check(t, src, want, both)
	}
}

// TestEveryShortThere: each short is a statement, and each operation, too.
func TestEveryShortThere(t *testing.T) {
	names := press.Names()
	for op := 1; op <= 48; op++ {
		names = append(names, ins.Name(op))
	}
	for _, n := range names {
		args := make([]api.Operand, 9)
		if _, _, err := lower.Lower(api.Stmt{Name: n, Line: 1, Col: 1, Args: args}, both, nil); !errors.Is(err, api.BadArgs) {
			t.Errorf("P17.1: %s: %v", n, err)
		}
	}
}

func TestOptionsMakeShorts(t *testing.T) {
	check(t, "addi a0, a0, 1", "fixed {addi 10 10 0 1} c.addi 2 0", both)
	for _, o := range []api.Options{off, {Rvc: true}, {Relax: true}} {
		check(t, "addi a0, a0, 1", "fixed {addi 10 10 0 1} 4 0", o)
	}
	check(t, "addi sp, sp, 16", "fixed {addi 2 2 0 16} c.addi 2 0", both)
	check(t, "addi sp, sp, 48", "fixed {addi 2 2 0 48} c.addi16sp 2 0", both)
	check(t, "nop", "fixed {addi 0 0 0 0} c.nop 2 0", both)
	check(t, "ret", "fixed {jalr 0 1 0 0} c.jr 2 0", both)
	check(t, "addi a0, a1, 1", "fixed {addi 10 11 0 1} 4 0", both)
	check(t, "addi a0, a0, x", "late {addi 10 10 0 0} [x] 4 0", both)
}

func TestNumbers(t *testing.T) {
	for src, want := range map[string]string{
		"li a0, 5": "fixed {addi 10 0 0 5} 4 0", "li a0, -1": "fixed {addi 10 0 0 -1} 4 0", "li a0, -2048": "fixed {addi 10 0 0 -2048} 4 0", "li a0, 2047": "fixed {addi 10 0 0 2047} 4 0",
		"li a0, 2048": "fixed {lui 10 0 0 4096} 4 0; fixed {addi 10 10 0 -2048} 4 0", "li a0, 0x12345678": "fixed {lui 10 0 0 305418240} 4 0; fixed {addi 10 10 0 1656} 4 0",
		"li a0, 0x1000": "fixed {lui 10 0 0 4096} 4 0", "li a0, 0xFFFFF7FF": "fixed {lui 10 0 0 -4096} 4 0; fixed {addi 10 10 0 2047} 4 0", "li a0, 0x80000000": "fixed {lui 10 0 0 -2147483648} 4 0",
		"li a0, 0x7FFFFFFF": "fixed {lui 10 0 0 -2147483648} 4 0; fixed {addi 10 10 0 -1} 4 0", "li zero, big": "fixed {lui 0 0 0 305418240} 4 0; fixed {addi 0 0 0 1656} 4 0",
		"la a0, x+4": "addr {? 10 0 0 0} [x 4 k9] 0 0", "la a0, five": "addr {? 10 0 0 0} [five] 0 0", "la zero, .": "addr [.] 0 0",
	} {
		want = strings.ReplaceAll(want, "{? ", "{ ")
		check(t, src, want, off)
	}
	check(t, "li a0, 31", "fixed {addi 10 0 0 31} c.li 2 0", both)
	check(t, "li a0, 0x1001", "fixed {lui 10 0 0 4096} c.lui 2 0; fixed {addi 10 10 0 1} c.addi 2 0", both)
	check(t, "li sp, 0x1010", "fixed {lui 2 0 0 4096} 4 0; fixed {addi 2 2 0 16} c.addi 2 0", both)
}

func TestLate(t *testing.T) {
	for src, want := range map[string]string{
		"addi a0, a1, x": "late {addi 10 11 0 0} [x] 4 0", "addi a0, a1, .": "late {addi 10 11 0 0} [.] 4 0", "lw a0, %lo(x)(a1)": "late {lw 10 11 0 0} [x k7] 4 0", "sw a0, five+x(a1)": "late {sw 0 11 10 0} [five x k9] 4 0",
		"lui a0, %hi(x)": "late {lui 10 0 0 0} [x k6] 4 1", "auipc a0, %pcrel(5)": "late {auipc 10 0 0 0} [5 k8] 4 1", "slli a0, a1, x-x": "late {slli 10 11 0 0} [x x k10] 4 0", "jalr a0, x(a1)": "late {jalr 10 11 0 0} [x] 4 0",
		"addi a0, a1, x+x/0": "late {addi 10 11 0 0} [x x 0 k12 k9] 4 0",
		"j .+4":              "late {jal 0 0 0 0} [. 4 k9] 4 2", "beq a0, a1, x+2": "late {beq 0 10 11 0} [x 2 k9] 4 2", "j five": "late {jal 0 0 0 0} [five] 4 2", "bnez a0, k": "late {bne 0 10 0 0} [k] 4 2", "jal 5": "late {jal 1 0 0 0} [5] 4 2",
		"jal a0, x": "late {jal 10 0 0 0} [x] 4 2", "jal zero, -x": "late {jal 0 0 0 0} [x k4] 4 2",
	} {
		for _, o := range []api.Options{off, both} {
			check(t, src, want, o)
		}
	}
}

func TestBranchesAndJumps(t *testing.T) {
	for src, want := range map[string]string{
		"beq a0, a1, x": "{beq 0 10 11 0}", "bne a0, a1, x": "{bne 0 10 11 0}", "blt a0, a1, x": "{blt 0 10 11 0}", "bge a0, a1, x": "{bge 0 10 11 0}", "bltu a0, a1, x": "{bltu 0 10 11 0}", "bgeu a0, a1, x": "{bgeu 0 10 11 0}",
		"beqz a0, x": "{beq 0 10 0 0}", "bnez a0, x": "{bne 0 10 0 0}", "bgez a0, x": "{bge 0 10 0 0}", "bltz a0, x": "{blt 0 10 0 0}", "blez a0, x": "{bge 0 0 10 0}", "bgtz a0, x": "{blt 0 0 10 0}",
		"bgt a0, a1, x": "{blt 0 11 10 0}", "ble a0, a1, x": "{bge 0 11 10 0}", "bgtu a0, a1, x": "{bltu 0 11 10 0}", "bleu a0, a1, x": "{bgeu 0 11 10 0}",
		"j x": "{jal 0 0 0 0}", "jal x": "{jal 1 0 0 0}", "jal zero, x": "{jal 0 0 0 0}", "jal ra, x": "{jal 1 0 0 0}",
	} {
		kind := "branch"
		if strings.HasPrefix(want, "{jal") {
			kind = "jump"
		}
		check(t, src, kind+` "x" `+want+" [x] 0 0 grow rvc", both)
		check(t, src, kind+` "x" `+want+" [x] 0 0 grow", api.Options{Relax: true})
		check(t, src, "late "+want+" [x] 4 2", off)
		check(t, src, "late "+want+" [x] 4 2", api.Options{Rvc: true})
	}
	for src, want := range map[string]string{"call x": `far "x" { 1 1 0 0} [x] 0 0`, "tail x": `far "x" { 0 6 0 0} [x] 0 0`} {
		check(t, src, want+" grow rvc", both)
		check(t, src, want+" grow", api.Options{Relax: true})
		check(t, src, want+" rvc", api.Options{Rvc: true})
		check(t, src, want, off)
	}
	check(t, "call k", `far "k" { 1 1 0 0} [k] 0 0 rvc`, both)
}

func TestDirectives(t *testing.T) {
	for src, want := range map[string]string{
		".byte 1": "data [1] 1 0", ".half x, .": "data [x] 2 0; data [.] 2 0", ".2byte 7, 8": "data [7] 2 0; data [8] 2 0", ".4byte 7, 8": "data [7] 4 0; data [8] 4 0", ".word 1/0, z": "data [1 0 k12] 4 0; data [z] 4 0", ".4byte 'a'": "data [97] 4 0",
		`.ascii "ab", ""`: `bytes "ab" 0 0; bytes 0 0`, `.asciz "ab", ""`: `bytes "ab\x00" 0 0; bytes "\x00" 0 0`, ".zero 3": `bytes "\x00\x00\x00" 0 0`, ".zero k-k": "bytes 0 0",
		".align 0": "align 0 1", ".align 2": "align 0 4", ".align 12": "align 0 4096", ".org 0": "org 0 0", ".org -1": "org 0 4294967295", ".org k*2": "org 0 128",
		"x: @y: nop": `here "x" 0 0; here "y@0" 0 0; fixed {addi 0 0 0 0} 4 0`, "x:": `here "x" 0 0`, "": "", "x: .byte 1, 2": `here "x" 0 0; data [1] 1 0; data [2] 1 0`,
	} {
		check(t, src, want, off)
		if !strings.Contains(src, "nop") {
			check(t, src, want, both)
		}
	}
	most, _, err := lower.Lower(statement(t, ".zero 65536"), both, nil)
	if err != nil || len(most) != 1 || most[0].Name != strings.Repeat("\x00", 65536) {
		t.Errorf("P17.1: .zero 65536: %v", err)
	}
	items, _, _ := lower.Lower(statement(t, " x: @y: nop"), off, nil)
	if items[0].Line != 1 || items[0].Col != 2 || items[1].Col != 5 || items[2].Col != 9 {
		t.Errorf("P17.1: labels' places: %v", items)
	}
}

func TestOptions(t *testing.T) {
	for _, o := range []api.Options{off, both, {Rvc: true}, {Relax: true}} {
		for src, want := range map[string]api.Options{"rvc": {Rvc: true, Relax: o.Relax}, "norvc": {Relax: o.Relax}, "relax": {Rvc: o.Rvc, Relax: true}, "norelax": {Rvc: o.Rvc}} {
			items, behind, err := lower.Lower(statement(t, "x: .option "+src), o, syms)
			if toldAll(items) != `here "x" 0 0` || behind != want || err != nil {
				t.Errorf("P17.1: %s: %s, %v, %v", src, toldAll(items), behind, err)
			}
		}
	}
}

func checkFault(t *testing.T, what string, s api.Stmt, line, col int, code api.Code) {
	t.Helper()
	items, o, err := lower.Lower(s, both, syms)
	var f *api.Fault
	if !errors.As(err, &f) || f.Line != line || f.Col != col || !errors.Is(err, code) {
		t.Errorf("P17.1: %s: %v, want %d:%d: %v", what, err, line, col, code)
	}
	if items != nil || o != off {
		t.Errorf("P17.1: %s: %v, %v beside an error", what, items, o)
	}
}

func TestFaults(t *testing.T) {
	for _, c := range []struct {
		src  string
		col  int
		code api.Code
	}{
		{"x: foo 1", 4, api.BadName}, {"c.foo", 1, api.BadName}, {".foo 1", 1, api.BadName}, {".equ x, 1", 1, api.BadName}, {".", 1, api.BadName}, {"LI a0, 5", 1, api.BadName}, {".macro", 1, api.BadName},
		{"x: nop 1", 4, api.BadArgs}, {"addi a0, a1", 1, api.BadArgs}, {"addi a0, a1, 1, 2", 1, api.BadArgs}, {"jal", 1, api.BadArgs}, {"jal a0, x, y", 1, api.BadArgs}, {"jalr", 1, api.BadArgs}, {".byte", 1, api.BadArgs}, {".ascii", 1, api.BadArgs}, {".zero", 1, api.BadArgs}, {".zero 1, 2", 1, api.BadArgs}, {".option", 1, api.BadArgs}, {"call", 1, api.BadArgs}, {"ret 5", 1, api.BadArgs}, {"c.addi4spn a0, 5", 1, api.BadArgs},
		{"addi 5, a1, 1", 6, api.BadLine}, {"addi a0, (a1), 1", 10, api.BadLine}, {"addi a0, a1, a2", 14, api.BadLine}, {"addi a0, a1, 4(a2)", 14, api.BadLine}, {`addi a0, a1, "1"`, 14, api.BadLine}, {"lw a0, a1", 8, api.BadLine}, {"lw a0, 4", 8, api.BadLine}, {"add a0, a1, 5", 13, api.BadLine}, {"jal a0", 5, api.BadLine}, {"jalr x", 6, api.BadLine}, {"jalr (a0)", 6, api.BadLine}, {"beqz a0, a1", 10, api.BadLine}, {"li a0, a1", 8, api.BadLine}, {"li 5, 1/0", 4, api.BadLine}, {"la a0, (a1)", 8, api.BadLine}, {"call a0", 6, api.BadLine}, {"call x+1", 6, api.BadLine}, {"call 5", 6, api.BadLine}, {"tail .", 6, api.BadLine}, {".option 5", 9, api.BadLine}, {".option a0", 9, api.BadLine}, {`.option "rvc"`, 9, api.BadLine}, {`.byte 1, "a"`, 10, api.BadLine}, {".byte a0", 7, api.BadLine}, {".ascii 5", 8, api.BadLine}, {`.ascii "a", x`, 13, api.BadLine}, {".zero a0", 7, api.BadLine}, {"c.mv a0, 5", 10, api.BadLine}, {"c.add 5, a0", 7, api.BadLine}, {"lui a0, a1", 9, api.BadLine},
		{"addi a0, a1, 1/0", 15, api.Range}, {"addi a0, a1, 1/0+x", 15, api.Range}, {"lw a0, 1/0(a1)", 9, api.Range}, {"lui a0, 1/0", 10, api.Range}, {"li a0, x", 8, api.Undef}, {"li a0, .", 8, api.BadClass}, {"li a0, 1/0", 9, api.Range}, {".zero x", 7, api.Undef}, {".zero .-.", 7, api.BadClass}, {".align %pcrel(1)", 8, api.BadClass}, {".org x", 6, api.Undef},
		{"lui a0, 0x100000", 9, api.Range}, {"lui a0, -1", 9, api.Range}, {"c.lui a0, 0x100000", 11, api.Range}, {".zero 65537", 7, api.Range}, {".zero -1", 7, api.Range}, {".align 13", 8, api.Range}, {".align -1", 8, api.Range}, {".option foo", 9, api.BadName}, {".option @rvc", 9, api.BadName}, {"lui 5, 0x100000", 5, api.BadLine},
		{"x: addi a0, a1, 2048", 4, api.Range}, {"addi a0, a1, -2049", 1, api.Range}, {"lw a0, 2048(a1)", 1, api.Range}, {"sw a0, 4096(a1)", 1, api.Range}, {"slli a0, a1, 32", 1, api.Range}, {"srai a0, a1, -1", 1, api.Range},
		{"c.addi a0, 0", 1, api.Range}, {"c.addi a0, 32", 1, api.Range}, {"c.addi zero, 1", 1, api.Range}, {"c.lw t0, 4(a0)", 1, api.Range}, {"c.lw a0, 2(a0)", 1, api.Range}, {"c.lwsp a0, 4(a0)", 1, api.Range}, {"c.mv a0, zero", 1, api.Range}, {"c.jr zero", 1, api.Range}, {"c.lui sp, 1", 1, api.Range}, {"c.lui a0, 32", 1, api.Range}, {"c.addi16sp a0, 16", 1, api.Range}, {"c.addi4spn a0, a1, 16", 1, api.Range}, {"c.slli a0, 0", 1, api.Range},
		{"c.beqz t0, x", 1, api.Range}, {"c.bnez zero, x", 1, api.Range}, {"c.lw t0, x(a0)", 1, api.Range}, {"c.addi zero, x", 1, api.Range}, {"c.addi16sp a0, x", 1, api.Range}, {"c.lui sp, %hi(x)", 1, api.Range}, {"c.lwsp zero, x(sp)", 1, api.Range}, {"c.swsp a0, x(a0)", 1, api.Range}, {"c.addi4spn sp, sp, x", 1, api.Range}, {"c.srli t0, x", 1, api.Range},
	} {
		checkFault(t, c.src, statement(t, c.src), 1, c.col, c.code)
	}
}

// TestMadeUp tries statements that no line makes.
func TestMadeUp(t *testing.T) {
	reg := func(n int) api.Operand { return api.Operand{Kind: api.OpReg, Line: 4, Col: 5, Reg: n} }
	one := api.Operand{Kind: api.OpExpr, Line: 4, Col: 6, Nodes: []api.Node{{Kind: api.Num, Num: 1}}}
	great := api.Operand{Kind: api.OpExpr, Line: 4, Col: 6, Nodes: []api.Node{{Kind: api.Num, Num: 0x12345000}}}
	place := api.Operand{Kind: api.OpExpr, Line: 4, Col: 6, Nodes: []api.Node{{Kind: api.Dot}}}
	for _, n := range []int{32, -1, math.MaxInt, math.MinInt} {
		checkFault(t, "addi", api.Stmt{Name: "addi", Line: 2, Col: 3, Args: []api.Operand{reg(n), reg(1), one}}, 2, 3, api.Range)
		checkFault(t, "li", api.Stmt{Name: "li", Line: 2, Col: 3, Args: []api.Operand{reg(n), one}}, 2, 3, api.Range)
		checkFault(t, "li of a great number", api.Stmt{Name: "li", Line: 2, Col: 3, Args: []api.Operand{reg(n), great}}, 2, 3, api.Range)
		checkFault(t, "c.li", api.Stmt{Name: "c.li", Line: 2, Col: 3, Args: []api.Operand{reg(n), place}}, 2, 3, api.Range)
		for _, name := range []string{"jal", "lui", "la"} {
			s := api.Stmt{Name: name, Line: 2, Col: 3, Args: []api.Operand{reg(n), place}}
			if items, _, err := lower.Lower(s, both, nil); err != nil || len(items) != 1 || items[0].Ins.Rd != n {
				t.Errorf("P17.1: %s of %d: %v, %v", name, n, items, err)
			}
		}
	}
	checkFault(t, "no nodes", api.Stmt{Name: "li", Line: 2, Col: 3, Args: []api.Operand{reg(1), {Kind: api.OpExpr, Line: 4, Col: 6}}}, 0, 0, api.BadExpr)
	checkFault(t, "bad nodes", api.Stmt{Name: "addi", Args: []api.Operand{reg(1), reg(2), {Kind: api.OpExpr, Nodes: []api.Node{{Kind: api.Plus, Line: 7, Col: 8}}}}}, 7, 8, api.BadExpr)
	checkFault(t, "no kind", api.Stmt{Name: "li", Args: []api.Operand{{Line: 8, Col: 9}, one}}, 8, 9, api.BadLine)
	s := api.Stmt{Args: []api.Operand{one}, Labels: []api.Label{{Name: "l", Line: 1, Col: 2}}}
	if items, o, err := lower.Lower(s, both, nil); toldAll(items) != `here "l" 0 0` || o != both || err != nil {
		t.Errorf("P17.1: without a name: %s, %v, %v", toldAll(items), o, err)
	}
}

// TestOwnMemory: items share no memory with the statement.
func TestOwnMemory(t *testing.T) {
	for _, src := range []string{"j x", "call x", "la a0, x", ".word x, y", "lw a0, x(a1)", "addi a0, a1, x", "c.j x", "jal a0, x"} {
		s := statement(t, src)
		items, _, err := lower.Lower(s, both, nil)
		if err != nil {
			t.Fatal(err)
		}
		for _, a := range s.Args {
			clear(a.Nodes)
		}
		for _, i := range items {
			if len(i.Nodes) != 1 || i.Nodes[0].Kind != api.Sym {
				t.Errorf("%s: %v", src, i)
			}
		}
	}
}

// TestFixedMayBe: what is Fixed may be, and fits its short.
func TestFixedMayBe(t *testing.T) {
	names := append(press.Names(), strings.Fields("addi lui slli add lw sw jalr mv not neg li jr")...)
	operands := []api.Operand{{Kind: api.OpReg, Reg: 0}, {Kind: api.OpReg, Reg: 2}, {Kind: api.OpReg, Reg: 9}, {Kind: api.OpReg, Reg: 31}, {Kind: api.OpReg, Reg: 32}}
	for _, n := range []uint32{0, 1, 4, 16, 31, 32, 48, 256, 2047, 2048, 4096, 1<<20 - 1, 1<<32 - 1, 1<<32 - 16} {
		nodes := []api.Node{{Kind: api.Num, Num: n}}
		operands = append(operands, api.Operand{Kind: api.OpExpr, Nodes: nodes}, api.Operand{Kind: api.OpMem, Nodes: nodes, Reg: 2}, api.Operand{Kind: api.OpMem, Nodes: nodes, Reg: 8})
	}
	fixed := 0
	try := func(s api.Stmt) {
		items, _, err := lower.Lower(s, both, nil)
		if err != nil {
			return
		}
		for _, i := range items {
			if i.Kind != api.Fixed {
				continue
			}
			fixed++
			fits := i.Short == "" && i.Size == 4 || i.Size == 2 && press.Fits(i.Short, i.Ins)
			if !ins.May(i.Ins) || !fits {
				t.Errorf("P17.2: %v makes %v", s, i)
			}
		}
	}
	r := rand.New(rand.NewSource(17))
	for range 200000 {
		args := make([]api.Operand, r.Intn(4))
		for k := range args {
			args[k] = operands[r.Intn(len(operands))]
			if k == 0 {
				args[k] = operands[r.Intn(5)]
			}
		}
		try(api.Stmt{Name: names[r.Intn(len(names))], Args: args})
	}
	if fixed < 1000 {
		t.Errorf("only %d were Fixed", fixed)
	}
}
