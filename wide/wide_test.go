package wide_test

import (
	"math/rand"
	"testing"

	"typecase/api"
	"typecase/ins"
	"typecase/wide"
)

// bit n of the numbers lies at this bit of the word, by the chapter; -1: a nought.
var (
	placesI = []int{20, 21, 22, 23, 24, 25, 26, 27, 28, 29, 30, 31}
	placesS = []int{7, 8, 9, 10, 11, 25, 26, 27, 28, 29, 30, 31}
	placesB = []int{-1, 8, 9, 10, 11, 25, 26, 27, 28, 29, 30, 7, 31}
	placesU = []int{-1, -1, -1, -1, -1, -1, -1, -1, -1, -1, -1, -1, 12, 13, 14, 15, 16, 17, 18, 19, 20, 21, 22, 23, 24, 25, 26, 27, 28, 29, 30, 31}
	placesJ = []int{-1, 21, 22, 23, 24, 25, 26, 27, 28, 29, 30, 20, 12, 13, 14, 15, 16, 17, 18, 19, 31}
)

// gathered is the signed number whose bits lie at these places.
func gathered(w uint32, places []int) int32 {
	var x int64
	for k, p := range places {
		if p >= 0 && w>>p&1 == 1 {
			x += 1 << k
		}
	}
	if x >= 1<<(len(places)-1) {
		x -= 1 << len(places)
	}
	return int32(x)
}

func words() []uint32 {
	l := []uint32{0, 1<<32 - 1}
	for k := range 32 {
		l = append(l, 1<<k, ^(uint32(1) << k))
	}
	r := rand.New(rand.NewSource(4))
	for range 2000 {
		l = append(l, r.Uint32())
	}
	return l
}

func TestNumbers(t *testing.T) {
	for _, w := range words() {
		for _, c := range []struct {
			name      string
			got, want int32
		}{
			{"I", wide.ImmI(w), gathered(w, placesI)}, {"S", wide.ImmS(w), gathered(w, placesS)},
			{"B", wide.ImmB(w), gathered(w, placesB)}, {"U", wide.ImmU(w), gathered(w, placesU)},
			{"J", wide.ImmJ(w), gathered(w, placesJ)},
		} {
			if c.got != c.want {
				t.Errorf("P4.1: Imm%s(%#x) = %d, want %d", c.name, w, c.got, c.want)
			}
		}
	}
}

// diagram is a row of the chapter's list: which bits of a word tell the operation, and what they are.
type diagram struct {
	mask, bits uint32
	op         int
}

const (
	byOpcode = 0x7f
	byThird  = 0x707f
	byAll    = 0xfe00707f
)

func word(opcode, f3, f7 uint32) uint32 { return opcode | f3<<12 | f7<<25 }

func diagrams() []diagram {
	l := []diagram{
		{byOpcode, 0x37, api.Lui}, {byOpcode, 0x17, api.Auipc}, {byOpcode, 0x6f, api.Jal},
		{byThird, word(0x67, 0, 0), api.Jalr}, {byThird, word(0x0f, 0, 0), api.Fence},
		{1<<32 - 1, 0x73, api.Ecall}, {1<<32 - 1, 0x100073, api.Ebreak},
		{byAll, word(0x13, 1, 0), api.Slli}, {byAll, word(0x13, 5, 0), api.Srli}, {byAll, word(0x13, 5, 32), api.Srai},
		{byAll, word(0x33, 0, 32), api.Sub}, {byAll, word(0x33, 5, 32), api.Sra},
	}
	add := func(mask, opcode, f7 uint32, ops map[uint32]int) {
		for f3, op := range ops {
			l = append(l, diagram{mask, word(opcode, f3, f7), op})
		}
	}
	add(byThird, 0x63, 0, map[uint32]int{0: api.Beq, 1: api.Bne, 4: api.Blt, 5: api.Bge, 6: api.Bltu, 7: api.Bgeu})
	add(byThird, 0x03, 0, map[uint32]int{0: api.Lb, 1: api.Lh, 2: api.Lw, 4: api.Lbu, 5: api.Lhu})
	add(byThird, 0x23, 0, map[uint32]int{0: api.Sb, 1: api.Sh, 2: api.Sw})
	add(byThird, 0x13, 0, map[uint32]int{0: api.Addi, 2: api.Slti, 3: api.Sltiu, 4: api.Xori, 6: api.Ori, 7: api.Andi})
	add(byAll, 0x33, 0, map[uint32]int{0: api.Add, 1: api.Sll, 2: api.Slt, 3: api.Sltu, 4: api.Xor, 5: api.Srl, 6: api.Or, 7: api.And})
	add(byAll, 0x33, 1, map[uint32]int{0: api.Mul, 1: api.Mulh, 2: api.Mulhsu, 3: api.Mulhu, 4: api.Div, 5: api.Divu, 6: api.Rem, 7: api.Remu})
	return l
}

var allDiagrams = diagrams()

// meant is the instruction that a word is by the diagrams.
func meant(w uint32) (api.Ins, bool) {
	for _, d := range allDiagrams {
		if w&d.mask == d.bits {
			return filled(w, d.op), true
		}
	}
	return api.Ins{}, false
}

func filled(w uint32, op int) api.Ins {
	rd, rs1, rs2 := int(w>>7&31), int(w>>15&31), int(w>>20&31)
	switch ins.FormOf(op) {
	case ins.Upper:
		return api.Ins{Op: op, Rd: rd, Imm: gathered(w, placesU)}
	case ins.Jump:
		return api.Ins{Op: op, Rd: rd, Imm: gathered(w, placesJ)}
	case ins.Branch:
		return api.Ins{Op: op, Rs1: rs1, Rs2: rs2, Imm: gathered(w, placesB)}
	case ins.Load, ins.Number:
		return api.Ins{Op: op, Rd: rd, Rs1: rs1, Imm: gathered(w, placesI)}
	case ins.Store:
		return api.Ins{Op: op, Rs1: rs1, Rs2: rs2, Imm: gathered(w, placesS)}
	case ins.Shift:
		return api.Ins{Op: op, Rd: rd, Rs1: rs1, Imm: int32(rs2)}
	case ins.Register:
		return api.Ins{Op: op, Rd: rd, Rs1: rs1, Rs2: rs2}
	}
	return api.Ins{Op: op}
}

// TestDecode tries every opcode, f3 and f7, with what else may stand in a word.
func TestDecode(t *testing.T) {
	seen := map[int]bool{}
	for k := range uint32(1 << 17) {
		base := word(k&127, k>>7&7, k>>10)
		for _, rest := range []uint32{0, 1 << 20, 1 << 7, 1 << 15, 0x1FF8F80, 0x0AA5500} {
			w := base | rest
			want, wantOk := meant(w)
			got, ok := wide.Decode(w)
			if got != want || ok != wantOk {
				t.Fatalf("P4.1: Decode(%#x) = %v, %v, want %v, %v", w, got, ok, want, wantOk)
			}
			if ok && !ins.May(got) {
				t.Fatalf("P4.2: Decode(%#x) = %v, that may not be", w, got)
			}
			seen[got.Op] = true
		}
	}
	for op := 1; op <= 48; op++ {
		if !seen[op] {
			t.Errorf("P4.1: %s is never decoded", ins.Name(op))
		}
	}
}

func TestDecodeExamples(t *testing.T) {
	for _, c := range []struct {
		w    uint32
		want api.Ins
		ok   bool
	}{
		{0x00500093, api.Ins{Op: api.Addi, Rd: 1, Imm: 5}, true},
		{0xFE000EE3, api.Ins{Op: api.Beq, Imm: -4}, true},
		{0x0FF0000F, api.Ins{Op: api.Fence}, true}, {0xFFFF8F8F, api.Ins{Op: api.Fence}, true}, {0x0000100F, api.Ins{}, false},
		{0x00000073, api.Ins{Op: api.Ecall}, true}, {0x00100073, api.Ins{Op: api.Ebreak}, true},
		{0x000000F3, api.Ins{}, false}, {0x00200073, api.Ins{}, false}, {0x00108073, api.Ins{}, false},
		{0x40001013, api.Ins{}, false}, {0x02001013, api.Ins{}, false}, {0x40005013, api.Ins{Op: api.Srai}, true},
		{0, api.Ins{}, false}, {1<<32 - 1, api.Ins{}, false},
	} {
		if got, ok := wide.Decode(c.w); got != c.want || ok != c.ok {
			t.Errorf("P4.1: Decode(%#x) = %v, %v", c.w, got, ok)
		}
	}
}
