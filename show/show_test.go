package show_test

import (
	"testing"

	"typecase/api"
	"typecase/asm"
	"typecase/enc"
	"typecase/ins"
	"typecase/press"
	"typecase/show"
)

func TestText(t *testing.T) {
	for _, c := range []struct {
		i           api.Ins
		short, want string
	}{
		{api.Ins{Op: api.Addi, Rd: 10, Rs1: 11, Imm: -3}, "", "addi a0, a1, -3"}, {api.Ins{Op: api.Beq, Rs1: 8, Imm: 12}, "", "beq s0, zero, .+12"}, {api.Ins{Op: api.Beq, Rs1: 8, Imm: 12}, "c.beqz", "c.beqz s0, .+12"},
		{api.Ins{Op: api.Lui, Rd: 1, Imm: -4096}, "", "lui ra, 1048575"}, {api.Ins{Op: api.Auipc, Rd: 2}, "", "auipc sp, 0"}, {api.Ins{Op: api.Lui, Rd: 3, Imm: -1 << 31}, "", "lui gp, 524288"},
		{api.Ins{Op: api.Jal, Rd: 1, Imm: -1048576}, "", "jal ra, .-1048576"}, {api.Ins{Op: api.Jal}, "", "jal zero, .+0"}, {api.Ins{Op: api.Jalr, Rd: 1, Rs1: 5, Imm: -4}, "", "jalr ra, -4(t0)"},
		{api.Ins{Op: api.Bgeu, Rs1: 31, Rs2: 30, Imm: -4096}, "", "bgeu t6, t5, .-4096"}, {api.Ins{Op: api.Lbu, Rd: 18, Rs1: 27}, "", "lbu s2, 0(s11)"}, {api.Ins{Op: api.Sw, Rs1: 2, Rs2: 9, Imm: 2047}, "", "sw s1, 2047(sp)"},
		{api.Ins{Op: api.Srai, Rd: 5, Rs1: 6, Imm: 31}, "", "srai t0, t1, 31"}, {api.Ins{Op: api.Mulhsu, Rd: 28, Rs1: 3, Rs2: 4}, "", "mulhsu t3, gp, tp"},
		{api.Ins{Op: api.Fence}, "", "fence"}, {api.Ins{Op: api.Ecall}, "", "ecall"}, {api.Ins{Op: api.Ebreak}, "", "ebreak"}, {api.Ins{Op: api.Ebreak}, "c.ebreak", "c.ebreak"},
		{api.Ins{Op: api.Addi, Rd: 8, Rs1: 2, Imm: 1020}, "c.addi4spn", "c.addi4spn s0, sp, 1020"}, {api.Ins{Op: api.Lw, Rd: 9, Rs1: 10, Imm: 4}, "c.lw", "c.lw s1, 4(a0)"}, {api.Ins{Op: api.Lw, Rd: 31, Rs1: 2, Imm: 252}, "c.lwsp", "c.lwsp t6, 252(sp)"},
		{api.Ins{Op: api.Sw, Rs1: 15, Rs2: 14}, "c.sw", "c.sw a4, 0(a5)"}, {api.Ins{Op: api.Sw, Rs1: 2, Imm: 8}, "c.swsp", "c.swsp zero, 8(sp)"}, {api.Ins{Op: api.Addi}, "c.nop", "c.nop"}, {api.Ins{Op: api.Addi}, "", "addi zero, zero, 0"},
		{api.Ins{Op: api.Addi, Rd: 1, Rs1: 1, Imm: -32}, "c.addi", "c.addi ra, -32"}, {api.Ins{Op: api.Addi, Rd: 2, Rs1: 2, Imm: 16}, "c.addi", "c.addi sp, 16"}, {api.Ins{Op: api.Addi, Rd: 2, Rs1: 2, Imm: 16}, "c.addi16sp", "c.addi16sp sp, 16"}, {api.Ins{Op: api.Addi, Rd: 2, Imm: 16}, "c.li", "c.li sp, 16"},
		{api.Ins{Op: api.Lui, Rd: 1, Imm: -131072}, "c.lui", "c.lui ra, 1048544"}, {api.Ins{Op: api.Srli, Rd: 8, Rs1: 8, Imm: 1}, "c.srli", "c.srli s0, 1"}, {api.Ins{Op: api.Srai, Rd: 8, Rs1: 8, Imm: 31}, "c.srai", "c.srai s0, 31"}, {api.Ins{Op: api.Andi, Rd: 8, Rs1: 8, Imm: -1}, "c.andi", "c.andi s0, -1"}, {api.Ins{Op: api.Slli, Rd: 1, Rs1: 1, Imm: 9}, "c.slli", "c.slli ra, 9"},
		{api.Ins{Op: api.Sub, Rd: 8, Rs1: 8, Rs2: 9}, "c.sub", "c.sub s0, s1"}, {api.Ins{Op: api.Add, Rd: 8, Rs1: 8, Rs2: 9}, "c.add", "c.add s0, s1"}, {api.Ins{Op: api.Add, Rd: 8, Rs2: 9}, "c.mv", "c.mv s0, s1"},
		{api.Ins{Op: api.Jal, Rd: 1, Imm: 2}, "c.jal", "c.jal .+2"}, {api.Ins{Op: api.Jal, Imm: -2048}, "c.j", "c.j .-2048"}, {api.Ins{Op: api.Bne, Rs1: 8, Imm: -256}, "c.bnez", "c.bnez s0, .-256"}, {api.Ins{Op: api.Jalr, Rs1: 1}, "c.jr", "c.jr ra"}, {api.Ins{Op: api.Jalr, Rd: 1, Rs1: 1}, "c.jalr", "c.jalr ra"},
	} {
		if got := show.Text(c.i, c.short); got != c.want {
			t.Errorf("P23.1: %v, %q: %q, want %q", c.i, c.short, got, c.want)
		}
	}
}

func TestNoText(t *testing.T) {
	for _, c := range []struct {
		i     api.Ins
		short string
	}{
		{api.Ins{}, ""}, {api.Ins{Op: 49}, ""}, {api.Ins{Op: -1}, ""}, {api.Ins{Op: api.Addi, Imm: 2048}, ""}, {api.Ins{Op: api.Ecall, Rd: 1}, ""}, {api.Ins{Op: api.Add, Rd: 32}, ""},
		{api.Ins{Op: api.Addi}, "c.addi"}, {api.Ins{Op: api.Addi}, "addi"}, {api.Ins{Op: api.Addi}, "c.foo"}, {api.Ins{Op: api.Beq, Rs1: 7}, "c.beqz"}, {api.Ins{}, "c.nop"}, {api.Ins{Op: api.Add, Rd: 1, Rs1: 1}, "c.add"},
	} {
		if got := show.Text(c.i, c.short); got != "" {
			t.Errorf("P23.1: %v, %q: %q", c.i, c.short, got)
		}
	}
}

// checkBack holds that a text is made into just that instruction.
func checkBack(t *testing.T, i api.Ins, short string) {
	t.Helper()
	text := show.Text(i, short)
	p, errs := asm.Front([]byte(".option norelax\n"+text), 9)
	if text == "" || len(errs) > 0 || len(p.Items) != 1 {
		t.Fatalf("P23.2: %v, %q: %q: %v", i, short, text, errs)
	}
	got, size := p.Items[0], 4
	if short != "" {
		size = 2
	}
	led := ins.FormOf(i.Op) == ins.Branch || ins.FormOf(i.Op) == ins.Jump
	if got.Short != short || got.Size != size || led != (got.Kind == api.Late) || !led && (got.Kind != api.Fixed || got.Ins != i) {
		t.Fatalf("P23.2: %v, %q: %q: %v", i, short, text, got)
	}
	m, errs := asm.Assemble([]byte(".option norelax\n"+text), 64)
	var back api.Ins
	switch {
	case len(errs) > 0:
		t.Fatalf("P23.2: %q: %v", text, errs)
	case short != "":
		_, back, _ = press.Get(uint16(m.Bytes[0]) | uint16(m.Bytes[1])<<8)
	default:
		back, _ = enc.Get(uint32(m.Bytes[0]) | uint32(m.Bytes[1])<<8 | uint32(m.Bytes[2])<<16 | uint32(m.Bytes[3])<<24)
	}
	if back != i || len(m.Bytes) != size {
		t.Fatalf("P23.2: %v, %q: %q: %v", i, short, text, back)
	}
}

func TestBack(t *testing.T) {
	for k := 0; k < 1<<16; k += 3 {
		if name, i, ok := press.Get(uint16(k)); ok {
			checkBack(t, i, name)
			checkBack(t, i, "")
		}
	}
	for op := 1; op <= 48; op++ {
		for _, n := range []int32{0, 1, 2, 31, 254, 2047, 4094, 4096, 1<<20 - 2, 0x7FFFF000, -1, -2, -2048, -4096, -1 << 20, -1 << 31} {
			for _, i := range []api.Ins{{Op: op, Imm: n}, {Op: op, Rd: 31, Imm: n}, {Op: op, Rd: 1, Rs1: 2, Imm: n}, {Op: op, Rs1: 9, Rs2: 17, Imm: n}, {Op: op, Rd: 3, Rs1: 30, Rs2: 31, Imm: n}} {
				if ins.May(i) {
					checkBack(t, i, "")
				}
			}
		}
	}
}
