package ins_test

import (
	"math"
	"strconv"
	"strings"
	"testing"

	"typecase/api"
	"typecase/ins"
)

// inOrder are the operations' names, from 1 on, as the chapter lists them.
const inOrder = "Lui, Auipc, Jal, Jalr, Beq, Bne, Blt, Bge, Bltu, Bgeu, Lb, Lh, Lw, Lbu, Lhu, Sb, Sh, Sw, Addi, Slti, Sltiu, Xori, Ori, Andi, Slli, Srli, Srai, Add, Sub, Sll, Slt, Sltu, Xor, Srl, Sra, Or, And, Fence, Ecall, Ebreak, Mul, Mulh, Mulhsu, Mulhu, Div, Divu, Rem, Remu"

// forms are the operations of each form.
var forms = map[ins.Form]string{
	ins.Upper:    "lui auipc",
	ins.Jump:     "jal",
	ins.Branch:   "beq bne blt bge bltu bgeu",
	ins.Load:     "lb lh lw lbu lhu jalr",
	ins.Store:    "sb sh sw",
	ins.Number:   "addi slti sltiu xori ori andi",
	ins.Shift:    "slli srli srai",
	ins.Register: "add sub sll slt sltu xor srl sra or and mul mulh mulhsu mulhu div divu rem remu",
	ins.Bare:     "fence ecall ebreak",
}

func TestNames(t *testing.T) {
	for k, n := range strings.Split(inOrder, ", ") {
		small := strings.ToLower(n)
		if ins.Name(k+1) != small || ins.Op(small) != k+1 {
			t.Errorf("P3.1: %d: %s, %s: %d", k+1, ins.Name(k+1), small, ins.Op(small))
		}
		if ins.Op(n) != 0 {
			t.Errorf("P3.1: %s is no name", n)
		}
	}
	for _, op := range []int{0, -1, 49, math.MinInt, math.MaxInt} {
		if ins.Name(op) != "" || ins.FormOf(op) != ins.None {
			t.Errorf("P3.1: %d is no operation", op)
		}
	}
	for _, n := range []string{"", "nop", "c.add", "addi ", "lu"} {
		if ins.Op(n) != 0 {
			t.Errorf("P3.1: %q is no operation", n)
		}
	}
}

func TestForms(t *testing.T) {
	count := 0
	for f, l := range forms {
		for _, n := range strings.Fields(l) {
			count++
			if got := ins.FormOf(ins.Op(n)); got != f {
				t.Errorf("P3.1: %s: form %d, want %d", n, got, f)
			}
		}
	}
	if count != 48 {
		t.Errorf("%d operations", count)
	}
}

// numbers are those that may be, and that may not, of each form.
var numbers = map[ins.Form]struct{ may, not []int32 }{
	ins.Upper:    {[]int32{0, 4096, -4096, math.MinInt32, 0x7FFFF000}, []int32{1, 4095, -1, 2048, math.MaxInt32}},
	ins.Jump:     {[]int32{0, 2, -2, 1<<20 - 2, -1 << 20}, []int32{1, -1, 1 << 20, -1<<20 - 2, 1<<20 - 1, math.MinInt32}},
	ins.Branch:   {[]int32{0, 2, -2, 4094, -4096}, []int32{1, -1, 4095, 4096, -4098, math.MinInt32}},
	ins.Load:     {[]int32{0, 1, -1, 2047, -2048}, []int32{2048, -2049, math.MaxInt32, math.MinInt32}},
	ins.Store:    {[]int32{0, 1, -1, 2047, -2048}, []int32{2048, -2049, math.MaxInt32, math.MinInt32}},
	ins.Number:   {[]int32{0, 1, -1, 2047, -2048}, []int32{2048, -2049, math.MaxInt32, math.MinInt32}},
	ins.Shift:    {[]int32{0, 1, 31}, []int32{-1, 32, math.MinInt32}},
	ins.Register: {[]int32{0}, []int32{1, -1, 4096}},
	ins.Bare:     {[]int32{0}, []int32{1, -1, 4096}},
}

// parts are the registers of each form: d, s, t.
var parts = map[ins.Form]string{ins.Upper: "d", ins.Jump: "d", ins.Branch: "st", ins.Load: "ds", ins.Store: "st",
	ins.Number: "ds", ins.Shift: "ds", ins.Register: "dst", ins.Bare: ""}

func with(op int, register rune, n int) api.Ins {
	i := api.Ins{Op: op}
	switch register {
	case 'd':
		i.Rd = n
	case 's':
		i.Rs1 = n
	case 't':
		i.Rs2 = n
	}
	return i
}

func TestMay(t *testing.T) {
	for op := 1; op <= 48; op++ {
		f := ins.FormOf(op)
		for _, n := range numbers[f].may {
			if !ins.May(api.Ins{Op: op, Imm: n}) {
				t.Errorf("P3.1: %s with %d may be", ins.Name(op), n)
			}
		}
		for _, n := range numbers[f].not {
			if ins.May(api.Ins{Op: op, Imm: n}) {
				t.Errorf("P3.1: %s with %d may not be", ins.Name(op), n)
			}
		}
		for _, r := range "dst" {
			belongs := strings.ContainsRune(parts[f], r)
			for _, n := range []int{1, 8, 31} {
				if ins.May(with(op, r, n)) != belongs {
					t.Errorf("P3.1: %s, register %c %d: %v", ins.Name(op), r, n, !belongs)
				}
			}
			for _, n := range []int{-1, 32, math.MinInt, math.MaxInt} {
				if ins.May(with(op, r, n)) {
					t.Errorf("P3.1: %s, register %c %d", ins.Name(op), r, n)
				}
			}
		}
	}
	if ins.May(api.Ins{}) || ins.May(api.Ins{Op: 49}) || ins.May(api.Ins{Op: -3}) {
		t.Error("P3.1: no operation, but an instruction")
	}
}

func TestRegisters(t *testing.T) {
	called := strings.Fields("zero ra sp gp tp t0 t1 t2 s0 s1 a0 a1 a2 a3 a4 a5 a6 a7 s2 s3 s4 s5 s6 s7 s8 s9 s10 s11 t3 t4 t5 t6")
	for n, name := range called {
		if ins.RegName(n) != name {
			t.Errorf("P3.2: RegName(%d) = %s", n, ins.RegName(n))
		}
		for _, s := range []string{name, "x" + strconv.Itoa(n)} {
			if got, ok := ins.Reg(s); got != n || !ok {
				t.Errorf("P3.2: Reg(%s) = %d, %v", s, got, ok)
			}
		}
	}
	if n, ok := ins.Reg("fp"); n != 8 || !ok {
		t.Errorf("P3.2: fp: %d, %v", n, ok)
	}
	for _, s := range []string{"", "x", "x32", "x-1", "x00", "x01", "x+1", "X1", "A0", "a8", "s12", "t7", "pc", "0", "zero "} {
		if n, ok := ins.Reg(s); n != 0 || ok {
			t.Errorf("P3.2: Reg(%q) = %d, %v", s, n, ok)
		}
	}
	for _, n := range []int{-1, 32, math.MinInt, math.MaxInt} {
		if ins.RegName(n) != "" {
			t.Errorf("P3.2: RegName(%d) = %s", n, ins.RegName(n))
		}
	}
}
