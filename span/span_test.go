package span_test

import (
	"math"
	"slices"
	"strings"
	"testing"

	"typecase/api"
	"typecase/span"
)

var (
	beqz = api.Ins{Op: api.Beq, Rs1: 8}
	call = api.Ins{Rd: 1, Rs1: 1}
)

func branch(i api.Ins) api.Item { return api.Item{Kind: api.Branch, Ins: i, Grow: true, Rvc: true} }

func TestClasses(t *testing.T) {
	for _, c := range []struct {
		i    api.Item
		want []int
	}{
		{api.Item{Kind: api.Here, Name: "x"}, []int{0}}, {api.Item{Kind: api.Align, Num: 8}, []int{0}}, {api.Item{Kind: api.Org, Num: 8}, []int{0}},
		{api.Item{Kind: api.Bytes}, []int{0}}, {api.Item{Kind: api.Bytes, Name: "abc\x00"}, []int{4}}, {api.Item{Kind: api.Bytes, Name: strings.Repeat("é", 700), Size: 3}, []int{1400}},
		{api.Item{Kind: api.Data, Size: 1}, []int{1}}, {api.Item{Kind: api.Data, Size: 2}, []int{2}}, {api.Item{Kind: api.Data, Size: 4}, []int{4}}, {api.Item{Kind: api.Data}, []int{4}}, {api.Item{Kind: api.Data, Size: 3}, []int{4}}, {api.Item{Kind: api.Data, Size: -1}, []int{4}}, {api.Item{Kind: api.Data, Size: 8}, []int{4}},
		{api.Item{Kind: api.Fixed, Size: 2}, []int{2}}, {api.Item{Kind: api.Fixed, Size: 4}, []int{4}}, {api.Item{Kind: api.Fixed, Size: 1}, []int{4}}, {api.Item{Kind: api.Fixed, Short: "c.nop"}, []int{4}}, {api.Item{Kind: api.Late, Size: 2, Grow: true}, []int{2}}, {api.Item{Kind: api.Late}, []int{4}},
		{api.Item{Kind: api.Addr}, []int{8}}, {api.Item{Kind: api.Addr, Size: 2, Grow: true, Rvc: true}, []int{8}},
		{branch(beqz), []int{2, 4, 8}}, {branch(api.Ins{Op: api.Bne, Rs1: 15}), []int{2, 4, 8}}, {branch(api.Ins{Op: api.Bne, Rs1: 16}), []int{4, 8}}, {branch(api.Ins{Op: api.Beq, Rs1: 7}), []int{4, 8}}, {branch(api.Ins{Op: api.Beq, Rs1: 8, Rs2: 9}), []int{4, 8}}, {branch(api.Ins{Op: api.Blt, Rs1: 8}), []int{4, 8}}, {branch(api.Ins{}), []int{4, 8}},
		{api.Item{Kind: api.Branch, Ins: beqz, Grow: true}, []int{4, 8}}, {api.Item{Kind: api.Branch, Ins: beqz, Rvc: true}, []int{4}}, {api.Item{Kind: api.Branch, Size: 2}, []int{4}},
		{api.Item{Kind: api.Jump, Grow: true, Rvc: true}, []int{2, 4}}, {api.Item{Kind: api.Jump, Grow: true}, []int{4}}, {api.Item{Kind: api.Jump, Rvc: true}, []int{4}},
		{api.Item{Kind: api.Far, Ins: call, Grow: true, Rvc: true}, []int{2, 4, 8}}, {api.Item{Kind: api.Far, Grow: true}, []int{4, 8}}, {api.Item{Kind: api.Far, Rvc: true}, []int{8}}, {api.Item{Kind: api.Far}, []int{8}},
		{api.Item{}, []int{0}}, {api.Item{Kind: -1, Size: 2, Grow: true}, []int{0}}, {api.Item{Kind: 99, Name: "abc", Grow: true, Rvc: true}, []int{0}},
	} {
		if got := span.Classes(c.i); !slices.Equal(got, c.want) {
			t.Errorf("P18.1: %v: %v, want %v", c.i, got, c.want)
		}
	}
}

func TestNext(t *testing.T) {
	far := api.Item{Kind: api.Far, Grow: true, Rvc: true}
	for _, c := range []struct {
		i          api.Item
		size, next int
		ok         bool
	}{
		{far, 0, 2, true}, {far, -5, 2, true}, {far, math.MinInt, 2, true}, {far, 2, 4, true}, {far, 3, 4, true}, {far, 4, 8, true}, {far, 7, 8, true}, {far, 8, 8, false}, {far, 9, 9, false}, {far, math.MaxInt, math.MaxInt, false},
		{api.Item{Kind: api.Jump, Grow: true, Rvc: true}, 4, 4, false}, {api.Item{Kind: api.Branch}, 0, 4, true}, {api.Item{Kind: api.Here}, 0, 0, false}, {api.Item{Kind: api.Here}, -1, 0, true}, {api.Item{Kind: api.Bytes, Name: "abc"}, 2, 3, true}, {api.Item{}, 1, 1, false},
	} {
		if next, ok := span.Next(c.i, c.size); next != c.next || ok != c.ok {
			t.Errorf("P18.1: Next(%v, %d) = %d, %v", c.i, c.size, next, ok)
		}
	}
}

// bounds are the least and the greatest distance that a class reaches.
type bounds struct {
	i           api.Item
	size        int
	least, most int32
}

func all() []bounds {
	jump := api.Item{Kind: api.Jump, Grow: true, Rvc: true}
	far := api.Item{Kind: api.Far, Ins: call, Grow: true, Rvc: true}
	return []bounds{
		{branch(beqz), 2, -256, 254}, {branch(beqz), 4, -4096, 4094}, {branch(beqz), 8, -1<<20 + 4, 1<<20 + 2},
		{jump, 2, -2048, 2046}, {jump, 4, -1 << 20, 1<<20 - 2},
		{far, 2, -2048, 2046}, {far, 4, -1 << 20, 1<<20 - 2}, {far, 8, math.MinInt32, math.MaxInt32 - 1},
	}
}

func TestReaches(t *testing.T) {
	for _, b := range all() {
		for _, c := range []struct {
			far  int32
			want bool
		}{{0, true}, {2, true}, {-2, true}, {1, false}, {-1, false}, {b.least, true}, {b.most, true}, {b.least + 1, false}, {b.most - 1, false}, {b.least + 2, true}, {b.most - 2, true}, {b.least / 4 * 2, true}, {b.most / 4 * 2, true}} {
			if got := span.Reaches(b.i, b.size, c.far); got != c.want {
				t.Errorf("P18.2: kind %d, %d bytes, %d: %v", b.i.Kind, b.size, c.far, got)
			}
		}
		if b.size == 8 && b.i.Kind == api.Far {
			continue
		}
		for _, far := range []int32{b.least - 2, b.most + 2, math.MinInt32, math.MinInt32 + 2, math.MaxInt32 - 1} {
			if span.Reaches(b.i, b.size, far) {
				t.Errorf("P18.2: kind %d, %d bytes: %d is reached", b.i.Kind, b.size, far)
			}
		}
	}
}

func TestReachesByClassesAlone(t *testing.T) {
	for _, b := range all() {
		for _, size := range []int{-2, 0, 1, 3, 5, 6, 7, 9, 16, math.MaxInt} {
			if span.Reaches(b.i, size, 0) {
				t.Errorf("P18.2: kind %d reaches with %d bytes", b.i.Kind, size)
			}
		}
	}
	for _, c := range []struct {
		i    api.Item
		size int
		want bool
	}{
		{api.Item{Kind: api.Jump, Grow: true, Rvc: true}, 8, false}, {api.Item{Kind: api.Jump}, 2, false}, {api.Item{Kind: api.Jump}, 4, true}, {api.Item{Kind: api.Branch, Rvc: true, Ins: beqz}, 2, false}, {api.Item{Kind: api.Branch, Ins: beqz}, 8, false}, {api.Item{Kind: api.Branch}, 4, true},
		{api.Item{Kind: api.Far}, 4, false}, {api.Item{Kind: api.Far}, 8, true}, {branch(api.Ins{Op: api.Blt}), 2, false},
		{api.Item{Kind: api.Late, Size: 4}, 4, false}, {api.Item{Kind: api.Addr}, 8, false}, {api.Item{Kind: api.Here}, 0, false}, {api.Item{Kind: api.Fixed}, 4, false}, {api.Item{}, 0, false},
	} {
		if got := span.Reaches(c.i, c.size, 0); got != c.want {
			t.Errorf("P18.2: %v with %d: %v", c.i, c.size, got)
		}
	}
}

// TestGreaterReachesMore tries all distances around the bounds of every class.
func TestGreaterReachesMore(t *testing.T) {
	var distances []int32
	for _, b := range all() {
		for d := int32(-8); d <= 8; d++ {
			distances = append(distances, b.least+d, b.most+d, d)
		}
	}
	for _, b := range all() {
		for _, far := range distances {
			if !span.Reaches(b.i, b.size, far) {
				continue
			}
			if next, ok := span.Next(b.i, b.size); ok && !span.Reaches(b.i, next, far) {
				t.Errorf("P18.3: kind %d: %d is reached with %d bytes, not with %d", b.i.Kind, far, b.size, next)
			}
			for _, less := range []int32{far / 2, far / 3, far - 2, far + 2} {
				between := less >= min(0, far) && less <= max(0, far)
				if between && less%2 == 0 && !span.Reaches(b.i, b.size, less) {
					t.Errorf("P18.3: kind %d, %d bytes: %d is reached, not %d", b.i.Kind, b.size, far, less)
				}
			}
		}
	}
}
