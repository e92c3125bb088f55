package slim_test

import (
	"testing"

	"typecase/api"
	"typecase/ins"
	"typecase/slim"
)

// fields are what a parcel has where a diagram has letters: the number, without a sign and with one, and the registers.
type fields struct {
	n, s       int32
	d, t       int
	fewD, fewT int
}

// diagram is a row of the chapter: the bits of a parcel from 15 on; a to r are the bits 0 to 17 of the number,
// D and T those of registers.
type diagram struct {
	bits string
	ins  func(f fields) (api.Ins, bool)
}

func always(make func(f fields) api.Ins) func(f fields) (api.Ins, bool) {
	return func(f fields) (api.Ins, bool) { return make(f), true }
}

func some(make func(f fields) api.Ins) func(f fields) (api.Ins, bool) {
	return func(f fields) (api.Ins, bool) { return make(f), f.n != 0 }
}

func jump(rd int) func(f fields) (api.Ins, bool) {
	return always(func(f fields) api.Ins { return api.Ins{Op: api.Jal, Rd: rd, Imm: f.s} })
}

func branch(op int) func(f fields) (api.Ins, bool) {
	return always(func(f fields) api.Ins { return api.Ins{Op: op, Rs1: f.fewD, Imm: f.s} })
}

func shift(op int) func(f fields) (api.Ins, bool) {
	return always(func(f fields) api.Ins { return api.Ins{Op: op, Rd: f.fewD, Rs1: f.fewD, Imm: f.n} })
}

func two(op int) func(f fields) (api.Ins, bool) {
	return always(func(f fields) api.Ins { return api.Ins{Op: op, Rd: f.fewD, Rs1: f.fewD, Rs2: f.fewT} })
}

var diagrams = []diagram{
	{"000fejihgcdDDD00", some(func(f fields) api.Ins { return api.Ins{Op: api.Addi, Rd: f.fewD, Rs1: 2, Imm: f.n} })},
	{"010fedDDDcgTTT00", always(func(f fields) api.Ins { return api.Ins{Op: api.Lw, Rd: f.fewT, Rs1: f.fewD, Imm: f.n} })},
	{"110fedDDDcgTTT00", always(func(f fields) api.Ins { return api.Ins{Op: api.Sw, Rs1: f.fewD, Rs2: f.fewT, Imm: f.n} })},
	{"000fDDDDDedcba01", always(func(f fields) api.Ins { return api.Ins{Op: api.Addi, Rd: f.d, Rs1: f.d, Imm: f.s} })},
	{"001lejikghdcbf01", jump(1)}, {"101lejikghdcbf01", jump(0)},
	{"010fDDDDDedcba01", always(func(f fields) api.Ins { return api.Ins{Op: api.Addi, Rd: f.d, Imm: f.s} })},
	{"011j00010egihf01", some(func(f fields) api.Ins { return api.Ins{Op: api.Addi, Rd: 2, Rs1: 2, Imm: f.s} })},
	{"011rDDDDDqponm01", func(f fields) (api.Ins, bool) {
		return api.Ins{Op: api.Lui, Rd: f.d, Imm: f.s}, f.n != 0 && f.d != 2
	}},
	{"100000DDDedcba01", shift(api.Srli)},
	{"100001DDDedcba01", shift(api.Srai)},
	{"100f10DDDedcba01", always(func(f fields) api.Ins { return api.Ins{Op: api.Andi, Rd: f.fewD, Rs1: f.fewD, Imm: f.s} })},
	{"100011DDD00TTT01", two(api.Sub)}, {"100011DDD01TTT01", two(api.Xor)},
	{"100011DDD10TTT01", two(api.Or)}, {"100011DDD11TTT01", two(api.And)},
	{"110iedDDDhgcbf01", branch(api.Beq)}, {"111iedDDDhgcbf01", branch(api.Bne)},
	{"0000DDDDDedcba10", always(func(f fields) api.Ins { return api.Ins{Op: api.Slli, Rd: f.d, Rs1: f.d, Imm: f.n} })},
	{"010fDDDDDedchg10", func(f fields) (api.Ins, bool) {
		return api.Ins{Op: api.Lw, Rd: f.d, Rs1: 2, Imm: f.n}, f.d != 0
	}},
	{"1000DDDDD0000010", func(f fields) (api.Ins, bool) { return api.Ins{Op: api.Jalr, Rs1: f.d}, f.d != 0 }},
	{"1000DDDDDTTTTT10", func(f fields) (api.Ins, bool) { return api.Ins{Op: api.Add, Rd: f.d, Rs2: f.t}, f.t != 0 }},
	{"1001000000000010", always(func(f fields) api.Ins { return api.Ins{Op: api.Ebreak} })},
	{"1001DDDDD0000010", func(f fields) (api.Ins, bool) { return api.Ins{Op: api.Jalr, Rd: 1, Rs1: f.d}, f.d != 0 }},
	{"1001DDDDDTTTTT10", func(f fields) (api.Ins, bool) {
		return api.Ins{Op: api.Add, Rd: f.d, Rs1: f.d, Rs2: f.t}, f.t != 0
	}},
	{"110fedchgTTTTT10", always(func(f fields) api.Ins { return api.Ins{Op: api.Sw, Rs1: 2, Rs2: f.t, Imm: f.n} })},
}

// read is what a parcel has where the letters stand, and whether its fixed bits are the diagram's.
func read(bits string, h uint16) (fields, bool) {
	var f fields
	highest := 0
	for k := range bits {
		bit := int(h >> (15 - k) & 1)
		switch c := bits[k]; {
		case c == '0' || c == '1':
			if bit != int(c-'0') {
				return fields{}, false
			}
		case c == 'D':
			f.d = 2*f.d + bit
		case c == 'T':
			f.t = 2*f.t + bit
		default:
			f.n |= int32(bit) << (c - 'a')
			highest = max(highest, int(c-'a'))
		}
	}
	f.fewD, f.fewT = 8+f.d, 8+f.t
	f.s = f.n
	if f.n>>highest == 1 {
		f.s -= 2 << highest
	}
	return f, true
}

func meant(h uint16) (api.Ins, bool) {
	for _, d := range diagrams {
		if f, ok := read(d.bits, h); ok {
			if i, ok := d.ins(f); ok {
				return i, true
			}
		}
	}
	return api.Ins{}, false
}

func TestExpandAll(t *testing.T) {
	for k := range 1 << 16 {
		h := uint16(k)
		want, wantOk := meant(h)
		got, ok := slim.Expand(h)
		if got != want || ok != wantOk {
			t.Fatalf("P5.1: Expand(%#x) = %v, %v, want %v, %v", h, got, ok, want, wantOk)
		}
		if ok && !ins.May(got) {
			t.Fatalf("P5.2: Expand(%#x) = %v, that may not be", h, got)
		}
		if h&3 == 3 && ok {
			t.Fatalf("P5.1: Expand(%#x) is of the quarter 3", h)
		}
	}
}

func TestExpandExamples(t *testing.T) {
	for _, c := range []struct {
		h    uint16
		want api.Ins
	}{
		{0x4515, api.Ins{Op: api.Addi, Rd: 10, Imm: 5}},
		{0x8082, api.Ins{Op: api.Jalr, Rs1: 1}},
		{0x0001, api.Ins{Op: api.Addi}},
		{0x0005, api.Ins{Op: api.Addi, Imm: 1}},
		{0xA001, api.Ins{Op: api.Jal}},
		{0xBFFD, api.Ins{Op: api.Jal, Imm: -2}},
		{0x3FFD, api.Ins{Op: api.Jal, Rd: 1, Imm: -2}},
		{0x9002, api.Ins{Op: api.Ebreak}},
		{0x7179, api.Ins{Op: api.Addi, Rd: 2, Rs1: 2, Imm: -48}},
		{0x6005, api.Ins{Op: api.Lui, Imm: 4096}},
		{0x757D, api.Ins{Op: api.Lui, Rd: 10, Imm: -4096}},
		{0xC401, api.Ins{Op: api.Beq, Rs1: 8, Imm: 8}},
		{0x0808, api.Ins{Op: api.Addi, Rd: 10, Rs1: 2, Imm: 16}},
		{0x5082, api.Ins{Op: api.Lw, Rd: 1, Rs1: 2, Imm: 32}},
		{0xC006, api.Ins{Op: api.Sw, Rs1: 2, Rs2: 1}},
	} {
		if got, ok := slim.Expand(c.h); got != c.want || !ok {
			t.Errorf("P5.1: Expand(%#x) = %v, %v, want %v", c.h, got, ok, c.want)
		}
	}
	for _, h := range []uint16{0, 0x0004, 0x6001, 0x6101, 0x4002, 0x8002, 0x1002, 0x9401, 0x9C01, 0x2000, 0x6000, 0x8000, 0xA000, 0xE000, 0x2002, 0x6002, 0xA002, 0xE002, 3, 0xFFFF} {
		if got, ok := slim.Expand(h); got != (api.Ins{}) || ok {
			t.Errorf("P5.1: Expand(%#x) = %v, %v", h, got, ok)
		}
	}
}
