package enc_test

import (
	"math/rand"
	"testing"

	"typecase/api"
	"typecase/enc"
	"typecase/ins"
	"typecase/wide"
)

func TestRows(t *testing.T) {
	rows := enc.Rows()
	if len(rows) != 48 {
		t.Fatalf("P8.1: %d rows", len(rows))
	}
	masks := map[ins.Form]uint32{ins.Upper: 0x7f, ins.Jump: 0x7f, ins.Branch: 0x707f, ins.Load: 0x707f, ins.Store: 0x707f,
		ins.Number: 0x707f, ins.Shift: 0xfe00707f, ins.Register: 0xfe00707f, ins.Bare: 0xffffffff}
	for k, r := range rows {
		if r.Op != k+1 {
			t.Errorf("P8.1: row %d is of %d", k, r.Op)
		}
		if r.Mask != masks[ins.FormOf(r.Op)] || r.Match&^r.Mask != 0 {
			t.Errorf("P8.1: %s: %#x, %#x", ins.Name(r.Op), r.Match, r.Mask)
		}
		if i, ok := wide.Decode(r.Match); !ok || i.Op != r.Op {
			t.Errorf("P8.1: the machine decodes the row of %s as %s", ins.Name(r.Op), ins.Name(i.Op))
		}
	}
	for op, match := range map[int]uint32{api.Fence: 0x0ff0000f, api.Ecall: 0x73, api.Ebreak: 0x100073, api.Srai: 0x40005013, api.Remu: 0x02007033} {
		if rows[op-1].Match != match {
			t.Errorf("P8.1: %s: %#x", ins.Name(op), rows[op-1].Match)
		}
	}
	rows[0].Op = 99
	if enc.Rows()[0].Op != api.Lui {
		t.Error("P8.1: the table can be written over")
	}
}

// numbers are some that an operation's number may be, and some that it may not be.
var numbers = []int32{0, 1, 2, 3, 4, 5, 7, 8, 16, 31, 32, 64, 100, 128, 256, 512, 1024, 2046, 2047, 2048, 4094, 4095, 4096, 8192, 1 << 16,
	1<<20 - 2, 1 << 20, 0x12345000, 0x7FFFF000, -1, -2, -3, -4, -16, -100, -2047, -2048, -2049, -2050, -4094, -4096, -4098, -8192, -1 << 20, -1<<20 - 2, -1 << 31}

func each(do func(i api.Ins)) {
	registers := []int{0, 1, 7, 8, 15, 16, 21, 31, 32, -1}
	for op := range 50 {
		for _, n := range numbers {
			for _, rd := range registers {
				for _, rs1 := range registers {
					for _, rs2 := range []int{0, 10, 31, 32, -1} {
						do(api.Ins{Op: op, Rd: rd, Rs1: rs1, Rs2: rs2, Imm: n})
					}
				}
			}
		}
	}
}

func TestPut(t *testing.T) {
	each(func(i api.Ins) {
		w, ok := enc.Put(i)
		if ok != ins.May(i) || !ok && w != 0 {
			t.Fatalf("P8.2: Put(%v) = %#x, %v", i, w, ok)
		}
		if !ok {
			return
		}
		if back, ok := enc.Get(w); back != i || !ok {
			t.Fatalf("P8.2: Put(%v) = %#x, and Get tells %v", i, w, back)
		}
		if back, ok := wide.Decode(w); back != i || !ok {
			t.Fatalf("P8.3: Put(%v) = %#x, and the machine decodes %v", i, w, back)
		}
	})
}

func TestGet(t *testing.T) {
	r := rand.New(rand.NewSource(8))
	codes := []uint32{0x37, 0x17, 0x6f, 0x67, 0x63, 0x03, 0x23, 0x13, 0x33, 0x0f, 0x73}
	for k := range 200000 {
		w := r.Uint32()
		if k%8 != 0 {
			w = w&^0x7f | codes[r.Intn(len(codes))]
		}
		if k%4 == 1 {
			w &= 0x41ffffff
		}
		i, ok := enc.Get(w)
		want, decoded := wide.Decode(w)
		if want.Op == api.Fence && w != 0x0ff0000f {
			want, decoded = api.Ins{}, false
		}
		if i != want || ok != decoded {
			t.Fatalf("P8.2: Get(%#x) = %v, %v, want %v", w, i, ok, want)
		}
		if !ok {
			continue
		}
		if again, ok := enc.Put(i); again != w || !ok {
			t.Fatalf("P8.3: Get(%#x) = %v, that is put as %#x", w, i, again)
		}
	}
}

func TestExamples(t *testing.T) {
	if w, ok := enc.Put(api.Ins{Op: api.Addi, Rd: 1, Imm: 5}); w != 0x00500093 || !ok {
		t.Errorf("P8.2: %#x", w)
	}
	if w, ok := enc.Put(api.Ins{Op: api.Beq, Imm: -4}); w != 0xFE000EE3 || !ok {
		t.Errorf("P8.2: %#x", w)
	}
	for _, w := range []uint32{0x0000000F, 0, 0xFFFFFFFF, 0x00200073, 0x2063, 0x40001013, 0x80000033} {
		if i, ok := enc.Get(w); i != (api.Ins{}) || ok {
			t.Errorf("P8.2: Get(%#x) = %v, %v", w, i, ok)
		}
	}
}
