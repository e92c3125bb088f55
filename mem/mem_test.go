package mem_test

import (
	"bytes"
	"math"
	"slices"
	"testing"

	"typecase/api"
	"typecase/mem"
)

const last = 1<<32 - 1

func TestNewTakesTheLastOfAnAddress(t *testing.T) {
	given := []api.Cell{{At: 9, Byte: 1}, {At: 3, Byte: 7}, {At: 9, Byte: 2}, {At: 3, Byte: 0}, {At: last, Byte: 5}, {At: 4, Byte: 0}}
	m := mem.New(given...)
	want := []api.Cell{{At: 9, Byte: 2}, {At: last, Byte: 5}}
	if got := m.Cells(); !slices.Equal(got, want) {
		t.Errorf("P2.1: %v", got)
	}
	given[0] = api.Cell{At: 100, Byte: 100}
	if m.Load(9, 1) != 2 || m.Load(100, 1) != 0 {
		t.Error("P2.1: what was handed in is kept")
	}
	if got := mem.New().Cells(); len(got) != 0 {
		t.Errorf("P2.1: %v in an empty memory", got)
	}
}

func TestLoad(t *testing.T) {
	m := mem.New(api.Cell{At: last, Byte: 1}, api.Cell{At: 0, Byte: 2}, api.Cell{At: 1, Byte: 3}, api.Cell{At: 2, Byte: 0xF4}, api.Cell{At: 3, Byte: 5})
	for _, c := range []struct {
		at   uint32
		n    int
		want uint32
	}{
		{last, 1, 1}, {last, 2, 0x201}, {last, 4, 0xF4030201}, {0, 3, 0xF40302}, {0, 4, 0x5F40302},
		{last, 0, 0}, {last, -1, 0}, {last, math.MinInt, 0}, {last, 5, 0xF4030201}, {last, math.MaxInt, 0xF4030201}, {100, 4, 0},
	} {
		if got := m.Load(c.at, c.n); got != c.want {
			t.Errorf("P2.1: Load(%#x, %d) = %#x, want %#x", c.at, c.n, got, c.want)
		}
	}
}

func TestStore(t *testing.T) {
	for _, c := range []struct {
		at   uint32
		n    int
		v    uint32
		want []api.Cell
	}{
		{last, 2, 258, []api.Cell{{At: 0, Byte: 1}, {At: last, Byte: 2}}},
		{5, 4, 0x04030201, []api.Cell{{At: 5, Byte: 1}, {At: 6, Byte: 2}, {At: 7, Byte: 3}, {At: 8, Byte: 4}}},
		{5, 9, 0x04030201, []api.Cell{{At: 5, Byte: 1}, {At: 6, Byte: 2}, {At: 7, Byte: 3}, {At: 8, Byte: 4}}},
		{5, 1, 0x04030201, []api.Cell{{At: 5, Byte: 1}}},
		{5, 3, 0x04030001, []api.Cell{{At: 5, Byte: 1}, {At: 7, Byte: 3}}},
		{5, 0, all, nil}, {5, -7, all, nil},
	} {
		m := mem.New()
		m.Store(c.at, c.n, c.v)
		if got := m.Cells(); !slices.Equal(got, c.want) {
			t.Errorf("P2.1: Store(%#x, %d, %#x): %v", c.at, c.n, c.v, got)
		}
	}
	more := mem.New(api.Cell{At: 4, Byte: 4}, api.Cell{At: 9, Byte: 9})
	more.Store(5, 8, all)
	if more.Load(4, 1) != 4 || more.Load(9, 1) != 9 {
		t.Errorf("P2.1: more than four bytes stored: %v", more.Cells())
	}
	m := mem.New(api.Cell{At: 4, Byte: 4}, api.Cell{At: 5, Byte: 5}, api.Cell{At: 6, Byte: 6}, api.Cell{At: 7, Byte: 7})
	m.Store(5, 2, 0)
	if got := m.Cells(); !slices.Equal(got, []api.Cell{{At: 4, Byte: 4}, {At: 7, Byte: 7}}) {
		t.Errorf("P2.1: noughts stored: %v", got)
	}
}

const all = uint32(1<<32 - 1)

func TestLayAndBytes(t *testing.T) {
	m := mem.New(api.Cell{At: 0, Byte: 9})
	given := []byte{1, 2, 0, 4}
	m.Lay(last-1, given)
	given[0] = 77
	if got := m.Bytes(last-2, 6); !bytes.Equal(got, []byte{0, 1, 2, 0, 4, 0}) {
		t.Errorf("P2.1: %v", got)
	}
	if got := m.Cells(); !slices.Equal(got, []api.Cell{{At: 1, Byte: 4}, {At: last - 1, Byte: 1}, {At: last, Byte: 2}}) {
		t.Errorf("P2.1: %v", got)
	}
	for _, c := range []struct{ n, want int }{{0, 0}, {-1, 0}, {math.MinInt, 0}, {65535, 65535}, {65536, 65536}, {65537, 65536}, {math.MaxInt, 65536}} {
		if got := len(m.Bytes(0, c.n)); got != c.want {
			t.Errorf("P2.1: Bytes(0, %d) has %d", c.n, got)
		}
	}
	m.Bytes(1, 1)[0] = 200
	if m.Load(1, 1) != 4 {
		t.Error("P2.1: bytes that are told are the memory's own")
	}
}

func TestCellsRise(t *testing.T) {
	m := mem.New()
	for k := range uint32(500) {
		m.Store(k*2654435761, 1, k%4)
	}
	cells := m.Cells()
	if len(cells) != 375 {
		t.Errorf("P2.2: %d cells", len(cells))
	}
	for k, c := range cells {
		if c.Byte == 0 || k > 0 && cells[k-1].At >= c.At || m.Load(c.At, 1) != uint32(c.Byte) {
			t.Errorf("P2.2: cell %d: %v", k, c)
		}
	}
	if again := mem.New(cells...).Cells(); !slices.Equal(again, cells) {
		t.Error("P2.2: a memory of its own cells is another one")
	}
}

func TestCopyGoesOnByItself(t *testing.T) {
	m := mem.New(api.Cell{At: 1, Byte: 1})
	c := m.Copy()
	c.Store(1, 1, 5)
	m.Store(2, 1, 6)
	if m.Load(1, 2) != 0x601 || c.Load(1, 2) != 5 {
		t.Errorf("P2.2: %v, %v", m.Cells(), c.Cells())
	}
	e := mem.New().Copy()
	e.Store(3, 1, 3)
	if e.Load(3, 1) != 3 {
		t.Error("P2.2: a copy of an empty memory")
	}
}
