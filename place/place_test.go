package place_test

import (
	"errors"
	"math"
	"math/rand"
	"slices"
	"strings"
	"testing"

	"typecase/api"
	"typecase/eval"
	"typecase/place"
)

const last = 1<<32 - 1

func bytes(n int) api.Item    { return api.Item{Kind: api.Bytes, Name: strings.Repeat("x", n)} }
func align(n uint32) api.Item { return api.Item{Kind: api.Align, Num: n} }
func org(n uint32) api.Item   { return api.Item{Kind: api.Org, Num: n} }
func here(name string) api.Item {
	return api.Item{Kind: api.Here, Name: name}
}

var (
	word   = api.Item{Kind: api.Data, Size: 4}
	nop    = api.Item{Kind: api.Fixed, Size: 2}
	branch = api.Item{Kind: api.Branch, Grow: true, Rvc: true}
	jump   = api.Item{Kind: api.Jump, Grow: true, Rvc: true}
	far    = api.Item{Kind: api.Far, Grow: true, Rvc: true}
	addr   = api.Item{Kind: api.Addr}
	late   = api.Item{Kind: api.Late, Size: 4}
)

func TestPlace(t *testing.T) {
	for _, c := range []struct {
		name  string
		items []api.Item
		sizes []int
		base  uint32
		want  []uint32
	}{
		{"nothing", nil, nil, 5, []uint32{5}}, {"nothing at the end", nil, nil, last, []uint32{last}},
		{"the example", []api.Item{bytes(3), align(4), word}, nil, 2, []uint32{2, 5, 8, 12}},
		{"each kind", []api.Item{here("x"), nop, late, addr, branch, jump, far, bytes(1), word}, []int{9, 9, 9, 9, 4, 2, 8, 9, 9}, 100, []uint32{100, 100, 102, 106, 114, 118, 120, 128, 129, 133}},
		{"sizes out of range", []api.Item{branch, jump, far, branch}, []int{-1, 9, math.MaxInt, math.MinInt}, 0, []uint32{0, 0, 8, 16, 16}},
		{"sizes that are missing", []api.Item{branch, jump, far}, []int{4}, 0, []uint32{0, 4, 4, 4}},
		{"sizes that are too many", []api.Item{jump}, []int{4, 4, 4}, 0, []uint32{0, 4}},
		{"a size of an item without Grow", []api.Item{{Kind: api.Branch}, word}, []int{6}, 0, []uint32{0, 6, 10}},
		{"aligned already", []api.Item{align(4), align(0), align(1), align(3), align(4096)}, nil, 12, []uint32{12, 12, 12, 12, 12, 4096}},
		{"odd multiples", []api.Item{align(5), align(7)}, nil, 1, []uint32{1, 5, 7}},
		{"org", []api.Item{bytes(3), org(3), org(8), org(8), bytes(1), org(65536)}, nil, 100, []uint32{100, 103, 103, 108, 108, 109, 65636}},
		{"a full image", []api.Item{bytes(65536), here("x"), align(4), bytes(0)}, nil, 0, []uint32{0, 65536, 65536, 65536, 65536}},
		{"to the end", []api.Item{bytes(15), here("x")}, nil, last - 15, []uint32{last - 15, last, last}},
		{"no kind", []api.Item{{}, {Kind: -4, Size: 4}, {Kind: 99, Name: "abc"}}, nil, 7, []uint32{7, 7, 7, 7}},
		{"odd, but no instruction", []api.Item{here("x"), bytes(1), word, align(2), nop}, nil, 1, []uint32{1, 1, 2, 6, 6, 8}},
	} {
		items, sizes := slices.Clone(c.items), slices.Clone(c.sizes)
		got, err := place.Place(items, sizes, c.base)
		if !slices.Equal(got, c.want) || err != nil {
			t.Errorf("P19.1: %s: %v, %v, want %v", c.name, got, err, c.want)
		}
		if !slices.Equal(sizes, c.sizes) {
			t.Errorf("%s: the sizes are changed", c.name)
		}
	}
}

func checkFault(t *testing.T, what string, err error, line, col int, code api.Code) {
	t.Helper()
	var f *api.Fault
	if !errors.As(err, &f) || f.Line != line || f.Col != col || !errors.Is(err, code) {
		t.Errorf("%s: %v, want %d:%d: %v", what, err, line, col, code)
	}
}

func TestPlaceFaults(t *testing.T) {
	for _, c := range []struct {
		name  string
		items []api.Item
		sizes []int
		base  uint32
		wrong int // which item is told
		code  api.Code
	}{
		{"nop", []api.Item{bytes(1), nop}, nil, 0, 1, api.Odd}, {"late", []api.Item{late}, nil, 7, 0, api.Odd}, {"addr", []api.Item{here("x"), addr}, nil, 7, 1, api.Odd}, {"jump", []api.Item{jump}, nil, 7, 0, api.Odd}, {"branch", []api.Item{branch}, nil, last, 0, api.Odd}, {"far", []api.Item{far, far}, []int{2, 2}, 1, 0, api.Odd}, {"behind an odd size", []api.Item{far, far}, []int{3, 2}, 0, 1, api.Odd},
		{"org behind", []api.Item{bytes(9), org(8)}, nil, 0, 1, api.Range}, {"org far", []api.Item{org(65537)}, nil, 0, 0, api.Range}, {"org at the greatest", []api.Item{org(last)}, nil, 4, 0, api.Range}, {"org beyond the end", []api.Item{org(16)}, nil, last - 15, 0, api.Range},
		{"too many bytes", []api.Item{bytes(65537)}, nil, 0, 0, api.Range}, {"too many in all", []api.Item{bytes(65535), word}, nil, 0, 1, api.Range}, {"one too many", []api.Item{bytes(65536), here("x"), bytes(1)}, nil, 400, 2, api.Range},
		{"beyond the end", []api.Item{bytes(16)}, nil, last - 15, 0, api.Range}, {"align beyond the end", []api.Item{align(4)}, nil, last - 1, 0, api.Range}, {"align far", []api.Item{bytes(1), align(1 << 31)}, nil, 0, 1, api.Range}, {"align by the greatest", []api.Item{align(last)}, nil, 1, 0, api.Range},
		{"odd ahead of too many", []api.Item{bytes(65535), nop}, nil, 0, 1, api.Odd}, {"the first", []api.Item{org(0), bytes(2), org(1), nop, bytes(99999)}, nil, 1, 2, api.Range}, {"odd first", []api.Item{nop, org(0)}, nil, 1, 0, api.Odd},
	} {
		for k := range c.items {
			c.items[k].Line, c.items[k].Col = k+10, 2*k+5
		}
		got, err := place.Place(c.items, c.sizes, c.base)
		checkFault(t, "P19.1: "+c.name, err, c.wrong+10, 2*c.wrong+5, c.code)
		if got != nil {
			t.Errorf("P19.1: %s: %v beside an error", c.name, got)
		}
	}
}

func TestLabels(t *testing.T) {
	items := []api.Item{here("x"), nop, here("y"), jump, here("z"), {Kind: api.Far, Name: "x"}}
	syms := []eval.Symbol{{Name: "n", Value: 4}, {Name: "n", Value: 5}}
	want := []eval.Symbol{{Name: "x", Value: 8, Class: eval.Place}, {Name: "y", Value: 12, Class: eval.Place}, {Name: "z", Class: eval.Place}}
	got, err := place.Labels(items, []uint32{8, 9, 12, 13}, syms)
	if !slices.Equal(got, want) || err != nil {
		t.Errorf("P19.2: %v, %v", got, err)
	}
	if got, err := place.Labels(nil, nil, syms); len(got) != 0 || err != nil {
		t.Errorf("P19.2: %v, %v", got, err)
	}
}

func TestLabelsTwice(t *testing.T) {
	for _, c := range []struct {
		names, syms string
		wrong       int
	}{{"x y x", "", 2}, {"x y z", "z", 2}, {"x y y x", "", 2}, {"x y", "y y x", 0}, {"x x", "n", 1}, {" ", "", -1}} {
		var items []api.Item
		for k, n := range strings.Fields(c.names) {
			items = append(items, api.Item{Kind: api.Here, Name: n, Line: k + 3, Col: k + 4})
		}
		var syms []eval.Symbol
		for _, n := range strings.Fields(c.syms) {
			syms = append(syms, eval.Symbol{Name: n})
		}
		got, err := place.Labels(items, nil, syms)
		if c.wrong < 0 {
			if err != nil {
				t.Errorf("P19.2: %v", err)
			}
			continue
		}
		checkFault(t, "P19.2: "+c.names, err, c.wrong+3, c.wrong+4, api.Twice)
		if got != nil {
			t.Errorf("P19.2: %s: %v beside an error", c.names, got)
		}
	}
}

// TestNothingLiesLower: with more bytes for what grows, nothing lies lower.
func TestNothingLiesLower(t *testing.T) {
	r := rand.New(rand.NewSource(19))
	pool := []api.Item{branch, jump, far, nop, late, addr, bytes(2), here("x")}
	for range 500 {
		var items []api.Item
		var less, more []int
		for range r.Intn(20) {
			items = append(items, pool[r.Intn(len(pool))])
			size := 2 * r.Intn(5)
			less, more = append(less, size), append(more, min(8, size+2*r.Intn(3)))
		}
		a, errA := place.Place(items, less, 64)
		b, errB := place.Place(items, more, 64)
		if errA != nil || errB != nil {
			t.Fatal(errA, errB)
		}
		for k := range a {
			if b[k] < a[k] {
				t.Fatalf("P19.3: %v with %v, and %v", items, less, more)
			}
		}
	}
}
