package press_test

import (
	"slices"
	"strings"
	"testing"

	"typecase/api"
	"typecase/ins"
	"typecase/press"
	"typecase/slim"
)

// short is a row of the chapter's list: its quarter and its f, and what is said of its instruction.
type short struct {
	name       string
	quarter, f uint16
	holds      func(i api.Ins) bool
}

func few(n int) bool { return n >= 8 && n <= 15 }

// signed: is it a signed number of so many bits?
func signed(n int32, bits int) bool { return n >= -1<<(bits-1) && n < 1<<(bits-1) }

// multiple: is it one of these, from least to most?
func multiple(n, of, least, most int32) bool { return n%of == 0 && n >= least && n <= most }

func sameFew(op int) func(i api.Ins) bool {
	return func(i api.Ins) bool { return i.Op == op && few(i.Rd) && i.Rs1 == i.Rd && few(i.Rs2) }
}

func moved(op int, asked func(n int) bool) func(i api.Ins) bool {
	return func(i api.Ins) bool { return i.Op == op && asked(i.Rd) && i.Rs1 == i.Rd && multiple(i.Imm, 1, 1, 31) }
}

func not0(n int) bool { return n != 0 }

func jump(rd int) func(i api.Ins) bool {
	return func(i api.Ins) bool { return i.Op == api.Jal && i.Rd == rd && i.Imm%2 == 0 && signed(i.Imm, 12) }
}

func branch(op int) func(i api.Ins) bool {
	return func(i api.Ins) bool {
		return i.Op == op && few(i.Rs1) && i.Rs2 == 0 && i.Imm%2 == 0 && signed(i.Imm, 9)
	}
}

func jalr(rd int) func(i api.Ins) bool {
	return func(i api.Ins) bool { return i.Op == api.Jalr && i.Rd == rd && i.Rs1 != 0 && i.Imm == 0 }
}

func shorts() []short {
	return []short{
		{"c.addi4spn", 0, 0, func(i api.Ins) bool {
			return i.Op == api.Addi && few(i.Rd) && i.Rs1 == 2 && multiple(i.Imm, 4, 4, 1020)
		}},
		{"c.lw", 0, 2, func(i api.Ins) bool {
			return i.Op == api.Lw && few(i.Rd) && few(i.Rs1) && multiple(i.Imm, 4, 0, 124)
		}},
		{"c.sw", 0, 6, func(i api.Ins) bool {
			return i.Op == api.Sw && few(i.Rs1) && few(i.Rs2) && multiple(i.Imm, 4, 0, 124)
		}},
		{"c.nop", 1, 0, func(i api.Ins) bool { return i == api.Ins{Op: api.Addi} }},
		{"c.addi", 1, 0, func(i api.Ins) bool {
			return i.Op == api.Addi && i.Rd != 0 && i.Rs1 == i.Rd && signed(i.Imm, 6) && i.Imm != 0
		}},
		{"c.jal", 1, 1, jump(1)},
		{"c.li", 1, 2, func(i api.Ins) bool { return i.Op == api.Addi && i.Rd != 0 && i.Rs1 == 0 && signed(i.Imm, 6) }},
		{"c.addi16sp", 1, 3, func(i api.Ins) bool {
			return i.Op == api.Addi && i.Rd == 2 && i.Rs1 == 2 && i.Imm%16 == 0 && signed(i.Imm, 10) && i.Imm != 0
		}},
		{"c.lui", 1, 3, func(i api.Ins) bool {
			return i.Op == api.Lui && i.Rd != 0 && i.Rd != 2 && signed(i.Imm/4096, 6) && i.Imm != 0
		}},
		{"c.srli", 1, 4, moved(api.Srli, few)},
		{"c.srai", 1, 4, moved(api.Srai, few)},
		{"c.andi", 1, 4, func(i api.Ins) bool { return i.Op == api.Andi && few(i.Rd) && i.Rs1 == i.Rd && signed(i.Imm, 6) }},
		{"c.sub", 1, 4, sameFew(api.Sub)}, {"c.xor", 1, 4, sameFew(api.Xor)},
		{"c.or", 1, 4, sameFew(api.Or)}, {"c.and", 1, 4, sameFew(api.And)},
		{"c.j", 1, 5, jump(0)},
		{"c.beqz", 1, 6, branch(api.Beq)}, {"c.bnez", 1, 7, branch(api.Bne)},
		{"c.slli", 2, 0, moved(api.Slli, not0)},
		{"c.lwsp", 2, 2, func(i api.Ins) bool {
			return i.Op == api.Lw && i.Rd != 0 && i.Rs1 == 2 && multiple(i.Imm, 4, 0, 252)
		}},
		{"c.jr", 2, 4, jalr(0)},
		{"c.mv", 2, 4, func(i api.Ins) bool { return i.Op == api.Add && i.Rd != 0 && i.Rs1 == 0 && i.Rs2 != 0 }},
		{"c.ebreak", 2, 4, func(i api.Ins) bool { return i == api.Ins{Op: api.Ebreak} }},
		{"c.jalr", 2, 4, jalr(1)},
		{"c.add", 2, 4, func(i api.Ins) bool { return i.Op == api.Add && i.Rd != 0 && i.Rs1 == i.Rd && i.Rs2 != 0 }},
		{"c.swsp", 2, 6, func(i api.Ins) bool { return i.Op == api.Sw && i.Rs1 == 2 && multiple(i.Imm, 4, 0, 252) }},
	}
}

// numbers stand on both sides of each bound.
var numbers = []int32{-135168, -131072, -4096, -2050, -2049, -2048, -1024, -528, -512, -258, -257, -256, -48, -33, -32, -16, -4, -2, -1, 0, 1, 2, 3, 4, 5, 8, 16,
	30, 31, 32, 48, 64, 96, 124, 126, 128, 252, 253, 254, 255, 256, 496, 512, 1016, 1018, 1020, 1024, 2044, 2046, 2047, 2048, 4096, 126976, 131072, 1048576, 2147479552, -2147483648}

func each(do func(i api.Ins)) {
	registers := []int{0, 1, 2, 7, 8, 15, 16, 32, -1}
	for op := range 50 {
		for _, n := range numbers {
			for _, rd := range registers {
				for _, rs1 := range registers {
					for _, rs2 := range []int{0, 2, 7, 8, 15, 16, 31, -8} {
						do(api.Ins{Op: op, Rd: rd, Rs1: rs1, Rs2: rs2, Imm: n})
					}
				}
			}
		}
	}
}

func TestNames(t *testing.T) {
	var want []string
	for _, s := range shorts() {
		want = append(want, s.name)
	}
	if got := press.Names(); !slices.Equal(got, want) || len(got) != 27 {
		t.Errorf("P9.1: %v", got)
	}
	press.Names()[0] = "x"
	if press.Names()[0] != "c.addi4spn" {
		t.Error("P9.1: the names can be written over")
	}
}

func TestFits(t *testing.T) {
	all := shorts()
	seen := map[string]bool{}
	each(func(i api.Ins) {
		if !ins.May(i) {
			if name := press.Short(i); name != "" {
				t.Fatalf("P9.1: Short(%v) = %s, that may not be", i, name)
			}
			return
		}
		first := ""
		for _, s := range all {
			holds := s.holds(i)
			if got := press.Fits(s.name, i); got != holds {
				t.Fatalf("P9.1: Fits(%s, %v) = %v", s.name, i, got)
			}
			if holds && first == "" {
				first = s.name
			}
			checkPut(t, s, i, holds)
			if holds {
				seen[s.name] = true
			}
		}
		if got := press.Short(i); got != first {
			t.Fatalf("P9.1: Short(%v) = %s, want %s", i, got, first)
		}
	})
	if len(seen) != 27 {
		t.Errorf("P9.1: only %d shorts were tried: %v", len(seen), seen)
	}
}

func checkPut(t *testing.T, s short, i api.Ins, holds bool) {
	h, ok := press.Put(s.name, i)
	if ok != holds || !ok && h != 0 {
		t.Fatalf("P9.2: Put(%s, %v) = %#x, %v", s.name, i, h, ok)
	}
	if !ok {
		return
	}
	if h&3 != s.quarter || h>>13 != s.f {
		t.Fatalf("P9.2: Put(%s, %v) = %#x: quarter %d, f %d", s.name, i, h, h&3, h>>13)
	}
	if name, back, ok := press.Get(h); name != s.name || back != i || !ok {
		t.Fatalf("P9.2: Put(%s, %v) = %#x, and Get tells %s, %v", s.name, i, h, name, back)
	}
	if back, ok := slim.Expand(h); back != i || !ok {
		t.Fatalf("P9.3: Put(%s, %v) = %#x, and the machine expands %v", s.name, i, h, back)
	}
}

func TestGetAll(t *testing.T) {
	all := shorts()
	for k := range 1 << 16 {
		h := uint16(k)
		name, i, ok := press.Get(h)
		wantName, want := meant(all, h)
		if name != wantName || i != want || ok != (wantName != "") {
			t.Fatalf("P9.2: Get(%#x) = %s, %v, %v, want %s, %v", h, name, i, ok, wantName, want)
		}
		if !ok {
			continue
		}
		if again, ok := press.Put(name, i); again != h || !ok {
			t.Fatalf("P9.3: Get(%#x) = %s, %v, that is put as %#x", h, name, i, again)
		}
	}
}

// meant is the short with whose quarter and f the machine expands a parcel to what is said of it.
func meant(all []short, h uint16) (string, api.Ins) {
	i, ok := slim.Expand(h)
	if !ok {
		return "", api.Ins{}
	}
	for _, s := range all {
		if h&3 == s.quarter && h>>13 == s.f && s.holds(i) {
			return s.name, i
		}
	}
	return "", api.Ins{}
}

func TestExamples(t *testing.T) {
	for n, want := range map[int32]string{16: "c.addi", 31: "c.addi", 32: "c.addi16sp", 48: "c.addi16sp", 0: "", 33: "", -32: "c.addi", -48: "c.addi16sp"} {
		if got := press.Short(api.Ins{Op: api.Addi, Rd: 2, Rs1: 2, Imm: n}); got != want {
			t.Errorf("P9.1: Short of addi 2, 2, %d: %s", n, got)
		}
	}
	for _, h := range []uint16{0, 3, 0xFFFF, 0x0005, 0x4001, 0x8002} {
		name, i, ok := press.Get(h)
		if name != "" || i != (api.Ins{}) || ok {
			t.Errorf("P9.2: Get(%#x) = %s, %v", h, name, i)
		}
	}
	for _, name := range []string{"", "addi", "c.foo", "C.NOP", "c.nop "} {
		i := api.Ins{Op: api.Addi}
		if h, ok := press.Put(name, i); press.Fits(name, i) || ok || h != 0 {
			t.Errorf("P9.1: %q is no short", name)
		}
	}
	if h, ok := press.Put("c.li", api.Ins{Op: api.Addi, Rd: 10, Imm: 5}); h != 0x4515 || !ok {
		t.Errorf("P9.2: %#x", h)
	}
	if strings.Join(press.Names()[:3], " ") != "c.addi4spn c.lw c.sw" {
		t.Error("P9.1: the order")
	}
}
