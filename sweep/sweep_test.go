package sweep_test

import (
	"bytes"
	"fmt"
	"math/rand"
	"strings"
	"testing"

	"typecase/api"
	"typecase/asm"
	"typecase/sweep"
)

// told is the pieces as a text: where each stands, how many bytes it has, and its text.
func told(b []byte) string {
	var all []string
	for _, l := range sweep.Lines(b) {
		all = append(all, fmt.Sprintf("%d %d %s", l.At, l.Bytes, l.Text))
	}
	return strings.Join(all, "; ")
}

func TestLines(t *testing.T) {
	for _, c := range []struct {
		b    []byte
		want string
	}{
		{nil, ""}, {[]byte{0xFF}, "0 1 .byte 255"}, {[]byte{0}, "0 1 .byte 0"}, {[]byte{0, 0}, "0 2 .2byte 0"}, {[]byte{0x01, 0xA0}, "0 2 c.j .+0"},
		{[]byte{0x15, 0x45, 0x82, 0x80, 0xFF}, "0 2 c.li a0, 5; 2 2 c.jr ra; 4 1 .byte 255"},
		{[]byte{0x93, 0x00, 0x50, 0x00}, "0 4 addi ra, zero, 5"}, {[]byte{0x93, 0x00, 0x50}, "0 2 .2byte 147; 2 1 .byte 80"}, {[]byte{0x93, 0x00}, "0 2 .2byte 147"},
		{[]byte{0x01, 0x00, 0x93, 0x00, 0x50, 0x00, 0x13}, "0 2 c.nop; 2 4 addi ra, zero, 5; 6 1 .byte 19"},
		{[]byte{0x0F, 0x00, 0x00, 0x00}, "0 4 .4byte 15"}, {[]byte{0x0F, 0x00, 0xF0, 0x0F}, "0 4 fence"}, {[]byte{0x73, 0, 0, 0, 0x73, 0, 0x10, 0}, "0 4 ecall; 4 4 ebreak"},
		{[]byte{0x1F, 0x00, 0x01, 0x00}, "0 2 .2byte 31; 2 2 c.nop"}, {[]byte{0xFF, 0xFF, 0xFF, 0xFF, 0xFF}, "0 2 .2byte 65535; 2 2 .2byte 65535; 4 1 .byte 255"}, {[]byte{0xE3, 0xFF, 0xFF, 0xFF}, "0 4 bgeu t6, t6, .-2"}, {[]byte{0x0B, 0xFF, 0xFF, 0xFF}, "0 4 .4byte 4294967051"},
		{[]byte{0x05, 0x00, 0x01, 0x40, 0x81, 0x40}, "0 2 .2byte 5; 2 2 .2byte 16385; 4 2 c.li ra, 0"}, {[]byte{0x37, 0xF5, 0xFF, 0xFF}, "0 4 lui a0, 1048575"}, {[]byte{0x13, 0, 0, 0}, "0 4 addi zero, zero, 0"},
	} {
		if got := told(c.b); got != c.want {
			t.Errorf("P24.1: % X: %s, want %s", c.b, got, c.want)
		}
	}
}

func TestText(t *testing.T) {
	for _, c := range []struct {
		b    []byte
		want string
	}{
		{nil, ".option norelax\n"}, {[]byte{0xFF}, ".option norelax\n.byte 255\n"}, {[]byte{0x15, 0x45, 0x82, 0x80, 0xFF}, ".option norelax\nc.li a0, 5\nc.jr ra\n.byte 255\n"},
	} {
		if got := sweep.Text(c.b); got != c.want {
			t.Errorf("P24.1: % X: %q", c.b, got)
		}
	}
}

// checkBack holds that the pieces' bytes are all bytes, and that their text makes them again.
func checkBack(t *testing.T, b []byte, base uint32) {
	t.Helper()
	before := bytes.Clone(b)
	at := 0
	lines := sweep.Lines(b)
	for _, l := range lines {
		if l.At != at || l.Bytes < 1 || l.Bytes > 4 {
			t.Fatalf("P24.2: % X: %v", b, l)
		}
		at += l.Bytes
	}
	text := sweep.Text(b)
	if at != len(b) || !bytes.Equal(b, before) || strings.Count(text, "\n") != len(lines)+1 {
		t.Fatalf("P24.2: % X: %v", b, lines)
	}
	if len(lines) > api.MaxItems || len(text) > api.MaxSource {
		t.Fatalf("%d bytes are too many to try", len(b))
	}
	m, errs := asm.Assemble([]byte(text), base)
	if len(errs) > 0 || !bytes.Equal(m.Bytes, b) {
		t.Fatalf("P4, P24.2: % X:\n%s% X, %v", b, text, m.Bytes, errs)
	}
}

func TestEveryParcel(t *testing.T) {
	var b []byte
	for k := range 1 << 16 {
		b = append(b, byte(k), byte(k>>8))
		if len(b) == 1024 {
			checkBack(t, b, uint32(k)&^3)
			b = b[:0]
		}
	}
}

func TestRandomBytes(t *testing.T) {
	r := rand.New(rand.NewSource(24))
	codes := []byte{0x37, 0x17, 0x6f, 0x67, 0x63, 0x03, 0x23, 0x13, 0x33, 0x0f, 0x73}
	for k := range 600 {
		b := make([]byte, r.Intn(200))
		r.Read(b)
		for at := 0; k%2 == 0 && at+4 <= len(b); at += 4 {
			b[at] = b[at]&0x80 | codes[r.Intn(len(codes))]
			if r.Intn(2) == 0 {
				b[at+3] &= 0x41
			}
		}
		checkBack(t, b, r.Uint32()&^3)
	}
}

func TestBases(t *testing.T) {
	b := []byte{0x6f, 0xf0, 0xdf, 0xff, 0x01, 0xA0}
	for _, base := range []uint32{0, 4, 1 << 31, 1<<32 - 8} {
		checkBack(t, b, base)
	}
	many := bytes.Repeat([]byte{0x01, 0x00}, api.MaxItems)
	checkBack(t, many, 0x1000)
	if l := sweep.Lines(bytes.Repeat([]byte{0x01}, 1<<17)); len(l) != 1<<16 {
		t.Errorf("P24.1: %d pieces", len(l))
	}
}
