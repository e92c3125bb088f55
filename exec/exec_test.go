package exec_test

import (
	"testing"

	"typecase/api"
	"typecase/exec"
	"typecase/ins"
)

const (
	least = uint32(1 << 31)
	all   = uint32(1<<32 - 1)
)

func TestValueOfTwo(t *testing.T) {
	for _, c := range []struct {
		op   int
		a, b uint32
		want uint32
	}{
		{api.Add, all, 2, 1}, {api.Sub, 1, 2, all},
		{api.Slt, all, 0, 1}, {api.Slt, 0, all, 0}, {api.Slt, 5, 5, 0},
		{api.Sltu, all, 0, 0}, {api.Sltu, 0, all, 1}, {api.Sltu, 5, 5, 0},
		{api.Xor, 0xF0F0, 0xFF00, 0x0FF0}, {api.Or, 0xF0F0, 0xFF00, 0xFFF0}, {api.And, 0xF0F0, 0xFF00, 0xF000},
		{api.Sll, 1, 31, least}, {api.Sll, 1, 33, 2}, {api.Sll, 3, 32, 3},
		{api.Srl, least, 31, 1}, {api.Srl, least, 33, 0x40000000},
		{api.Sra, least, 33, 0xC0000000}, {api.Sra, least, 31, all}, {api.Sra, 0x40000000, 1, 0x20000000},
		{api.Mul, 0x10001, 0x10001, 0x20001}, {api.Mul, all, all, 1},
		{api.Mulh, all, all, 0}, {api.Mulh, least, 2, all}, {api.Mulhsu, all, all, all}, {api.Mulhsu, 2, all, 1}, {api.Mulhu, all, all, all - 1},
		{api.Div, all - 6, 2, all - 2}, {api.Divu, all - 6, 2, 0x7FFFFFFC}, {api.Div, least, all, least}, {api.Divu, least, all, 0},
		{api.Div, 7, 0, all}, {api.Divu, 7, 0, all},
		{api.Rem, all - 6, 2, all}, {api.Remu, all - 6, 2, 1}, {api.Rem, least, all, 0}, {api.Remu, least, all, least}, {api.Rem, 7, 0, 7}, {api.Remu, 7, 0, 7},
	} {
		i := api.Ins{Op: c.op, Rd: 1, Rs1: 2, Rs2: 3}
		if got, ok := exec.Value(i, c.a, c.b, 100, 4); got != c.want || !ok {
			t.Errorf("P6.1: %s of %#x, %#x: %#x, %v, want %#x", ins.Name(c.op), c.a, c.b, got, ok, c.want)
		}
	}
}

func TestValueOfANumber(t *testing.T) {
	for _, c := range []struct {
		op   int
		a    uint32
		imm  int32
		want uint32
	}{
		{api.Addi, 1, -2, all}, {api.Slti, all, 0, 1}, {api.Slti, 0, -1, 0}, {api.Sltiu, 0, -1, 1}, {api.Sltiu, all, -1, 0},
		{api.Xori, 5, -1, all - 5}, {api.Ori, 5, -16, 0xFFFFFFF5}, {api.Andi, 0x12345678, -16, 0x12345670},
		{api.Slli, 1, 31, least}, {api.Srli, least, 31, 1}, {api.Srai, least, 31, all}, {api.Srai, 0x7FFFFFFF, 30, 1},
	} {
		i := api.Ins{Op: c.op, Rd: 1, Rs1: 2, Imm: c.imm}
		for _, b := range []uint32{0, 77, all} {
			if got, ok := exec.Value(i, c.a, b, 100, 4); got != c.want || !ok {
				t.Errorf("P6.1: %s of %#x, %d: %#x, %v, want %#x", ins.Name(c.op), c.a, c.imm, got, ok, c.want)
			}
		}
	}
}

func TestValueOfPlaces(t *testing.T) {
	for _, c := range []struct {
		i    api.Ins
		pc   uint32
		size int
		want uint32
	}{
		{api.Ins{Op: api.Lui, Rd: 1, Imm: -4096}, 100, 4, 0xFFFFF000},
		{api.Ins{Op: api.Auipc, Rd: 1, Imm: 8192}, 100, 4, 8292},
		{api.Ins{Op: api.Auipc, Rd: 1, Imm: -4096}, 4, 2, 0xFFFFF004},
		{api.Ins{Op: api.Jal, Rd: 1, Imm: 64}, 100, 2, 102},
		{api.Ins{Op: api.Jal, Imm: 64}, all - 1, 4, 2},
		{api.Ins{Op: api.Jalr, Rd: 1, Rs1: 5, Imm: 64}, 100, 4, 104},
		{api.Ins{Op: api.Jalr, Rd: 1, Rs1: 5, Imm: 64}, 100, -3, 97},
		{api.Ins{Op: api.Jal, Rd: 1}, 100, 1000, 1100},
	} {
		if got, ok := exec.Value(c.i, 9, 9, c.pc, c.size); got != c.want || !ok {
			t.Errorf("P6.1: %v at %d: %#x, %v, want %#x", c.i, c.pc, got, ok, c.want)
		}
	}
}

// may is an instruction of an operation.
func may(op int) api.Ins { return api.Ins{Op: op} }

func TestValueOfNone(t *testing.T) {
	for op := 1; op <= 48; op++ {
		_, ok := exec.Value(may(op), 1, 2, 3, 4)
		f := ins.FormOf(op)
		want := op == api.Jalr || f != ins.Branch && f != ins.Load && f != ins.Store && f != ins.Bare
		if ok != want {
			t.Errorf("P6.1: %s has a value: %v", ins.Name(op), ok)
		}
	}
	for _, i := range []api.Ins{{}, {Op: 49}, {Op: api.Addi, Imm: 2048}, {Op: api.Add, Imm: 1}, {Op: api.Jal, Imm: 1}, {Op: api.Lui, Imm: 1}, {Op: api.Add, Rs1: 32}} {
		if got, ok := exec.Value(i, 1, 2, 3, 4); got != 0 || ok {
			t.Errorf("P6.1: %v, that may not be: %d, %v", i, got, ok)
		}
	}
}

func TestNext(t *testing.T) {
	for _, c := range []struct {
		i        api.Ins
		a, b, pc uint32
		size     int
		want     uint32
	}{
		{api.Ins{Op: api.Jal, Imm: -8}, 0, 0, 4, 4, all - 3},
		{api.Ins{Op: api.Jalr, Rs1: 1, Imm: 3}, 100, 0, 4, 4, 102},
		{api.Ins{Op: api.Jalr, Rs1: 1, Imm: -1}, 100, 0, 4, 4, 98},
		{api.Ins{Op: api.Beq, Imm: 64}, 1, 1, 100, 2, 164}, {api.Ins{Op: api.Beq, Imm: 64}, 1, 2, 100, 2, 102},
		{api.Ins{Op: api.Bne, Imm: 64}, 1, 1, 100, 4, 104}, {api.Ins{Op: api.Bne, Imm: 64}, 1, 2, 100, 4, 164},
		{api.Ins{Op: api.Blt, Imm: -4}, all, 0, 100, 4, 96}, {api.Ins{Op: api.Blt, Imm: -4}, 0, all, 100, 4, 104}, {api.Ins{Op: api.Blt, Imm: -4}, 3, 3, 100, 4, 104},
		{api.Ins{Op: api.Bge, Imm: -4}, all, 0, 100, 4, 104}, {api.Ins{Op: api.Bge, Imm: -4}, 0, all, 100, 4, 96}, {api.Ins{Op: api.Bge, Imm: -4}, 3, 3, 100, 4, 96},
		{api.Ins{Op: api.Bltu, Imm: -4}, all, 0, 100, 4, 104}, {api.Ins{Op: api.Bltu, Imm: -4}, 0, all, 100, 4, 96}, {api.Ins{Op: api.Bltu, Imm: -4}, 3, 3, 100, 4, 104},
		{api.Ins{Op: api.Bgeu, Imm: -4}, all, 0, 100, 4, 96}, {api.Ins{Op: api.Bgeu, Imm: -4}, 0, all, 100, 4, 104}, {api.Ins{Op: api.Bgeu, Imm: -4}, 3, 3, 100, 4, 96},
		{api.Ins{Op: api.Addi, Imm: 64}, 0, 0, all, 2, 1}, {api.Ins{Op: api.Ecall}, 0, 0, 8, 4, 12}, {api.Ins{Op: api.Lw, Imm: 64}, 0, 0, 8, 7, 15},
		{api.Ins{Op: api.Jal, Imm: 1}, 0, 0, 8, 4, 12}, {api.Ins{Op: api.Beq, Imm: 5000}, 0, 0, 8, 4, 12}, {api.Ins{}, 0, 0, 8, -4, 4},
		{api.Ins{Op: api.Jalr, Imm: 4096}, 0, 0, 8, 4, 12},
	} {
		if got := exec.Next(c.i, c.a, c.b, c.pc, c.size); got != c.want {
			t.Errorf("P6.2: %v of %#x, %#x at %d: %#x, want %#x", c.i, c.a, c.b, c.pc, got, c.want)
		}
	}
}

func TestAccess(t *testing.T) {
	type asked struct {
		bytes         int
		store, signed bool
	}
	want := map[int]asked{
		api.Lb: {1, false, true}, api.Lh: {2, false, true}, api.Lw: {4, false, true}, api.Lbu: {1, false, false}, api.Lhu: {2, false, false},
		api.Sb: {1, true, false}, api.Sh: {2, true, false}, api.Sw: {4, true, false},
	}
	for op := 0; op <= 49; op++ {
		i := may(op)
		wantAt := uint32(0)
		if want[op].bytes > 0 {
			i.Imm, wantAt = -3, all-1
		}
		at, bytes, store, signed := exec.Access(i, 1)
		if at != wantAt || (asked{bytes, store, signed}) != want[op] {
			t.Errorf("P6.3: %s: %#x, %d, %v, %v", ins.Name(op), at, bytes, store, signed)
		}
	}
	for _, i := range []api.Ins{{Op: api.Lw, Imm: 2048}, {Op: api.Sw, Rd: 1}, {Op: api.Lb, Rs2: 3}, {Op: api.Sb, Rs1: -1}} {
		if at, bytes, store, signed := exec.Access(i, 1); at != 0 || bytes != 0 || store || signed {
			t.Errorf("P6.3: %v, that may not be, asks for %d", i, bytes)
		}
	}
}

func TestBranchesTheOtherWayRound(t *testing.T) {
	pairs := [][2]int{{api.Beq, api.Bne}, {api.Blt, api.Bge}, {api.Bltu, api.Bgeu}}
	for _, p := range pairs {
		for _, a := range []uint32{0, 1, 0x7FFFFFFF, least, all} {
			for _, b := range []uint32{0, 1, 0x7FFFFFFF, least, all} {
				one := exec.Next(api.Ins{Op: p[0], Imm: 64}, a, b, 0, 4) == 64
				other := exec.Next(api.Ins{Op: p[1], Imm: 64}, a, b, 0, 4) == 64
				if one == other {
					t.Errorf("P6.4: %s and %s of %#x, %#x go the same way", ins.Name(p[0]), ins.Name(p[1]), a, b)
				}
			}
		}
	}
}
