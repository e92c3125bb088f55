package relax_test

import (
	"errors"
	"math/rand"
	"reflect"
	"slices"
	"strconv"
	"strings"
	"testing"

	"typecase/api"
	"typecase/eval"
	"typecase/place"
	"typecase/relax"
	"typecase/span"
)

func bytes(n int) api.Item      { return api.Item{Kind: api.Bytes, Name: strings.Repeat("x", n)} }
func here(name string) api.Item { return api.Item{Kind: api.Here, Name: name} }
func jump(name string) api.Item { return api.Item{Kind: api.Jump, Name: name, Grow: true, Rvc: true} }
func far(name string) api.Item  { return api.Item{Kind: api.Far, Name: name, Grow: true, Rvc: true} }
func branch(name string) api.Item {
	return api.Item{Kind: api.Branch, Name: name, Ins: api.Ins{Op: api.Beq, Rs1: 8}, Grow: true, Rvc: true}
}
func still(i api.Item) api.Item { i.Grow = false; return i }

// filled is items of so many bytes in all.
func filled(n int) []api.Item { return []api.Item{bytes(n)} }

func join(parts ...[]api.Item) []api.Item { return slices.Concat(parts...) }

func one(i api.Item) []api.Item { return []api.Item{i} }

func TestRelax(t *testing.T) {
	x := here("x")
	for _, c := range []struct {
		name   string
		items  []api.Item
		sizes  []int
		passes int
	}{
		{"nothing", nil, []int{}, 1}, {"a label", one(x), []int{0}, 1},
		{"itself", join(one(x), one(jump("x"))), []int{0, 2}, 1},
		{"2044 bytes between", join(one(jump("x")), filled(2044), one(x)), []int{2, 0, 0}, 1},
		{"2046 bytes between", join(one(jump("x")), filled(2046), one(x)), []int{4, 0, 0}, 2},
		{"-2048", join(one(x), filled(2048), one(jump("x"))), []int{0, 0, 2}, 1}, {"-2050", join(one(x), filled(2050), one(jump("x"))), []int{0, 0, 4}, 2},
		{"a branch, 252 bytes", join(one(branch("x")), filled(252), one(x)), []int{2, 0, 0}, 1}, {"a branch, 254", join(one(branch("x")), filled(254), one(x)), []int{4, 0, 0}, 2},
		{"a branch, 4090", join(one(branch("x")), filled(4090), one(x)), []int{4, 0, 0}, 2}, {"a branch, 4092", join(one(branch("x")), filled(4092), one(x)), []int{8, 0, 0}, 3},
		{"a branch back, -256", join(one(x), filled(256), one(branch("x"))), []int{0, 0, 2}, 1}, {"a branch back, -4098", join(one(x), filled(4098), one(branch("x"))), []int{0, 0, 8}, 3},
		{"a call", join(one(far("x")), filled(2044), one(x), one(far("x"))), []int{2, 0, 0, 2}, 1}, {"a call, 2046", join(one(far("x")), filled(2046), one(x)), []int{4, 0, 0}, 2},
		{"none grows", join(one(still(branch("x"))), one(still(jump("x"))), one(still(far("x"))), filled(60000), one(x)), []int{4, 4, 8, 0, 0}, 1},
		{"one pushes another", join(one(jump("y")), one(jump("x")), filled(2042), one(here("y")), filled(4), one(x)), []int{4, 4, 0, 0, 0, 0}, 3},
		{"an odd target of a jump", join(one(jump("x")), filled(3), one(x)), []int{4, 0, 0}, 2}, {"an odd target of a call", join(one(far("x")), filled(3), one(x)), []int{8, 0, 0}, 3},
		{"without Rvc", []api.Item{{Kind: api.Jump, Name: "x", Grow: true}, x}, []int{4, 0}, 1},
	} {
		before := slices.Clone(c.items)
		l, err := relax.Relax(c.items, nil, 64)
		if err != nil || !slices.Equal(l.Sizes, c.sizes) || l.Passes != c.passes {
			t.Errorf("P20.1: %s: %v, %d passes, %v", c.name, l.Sizes, l.Passes, err)
			continue
		}
		at, _ := place.Place(c.items, l.Sizes, 64)
		labels, _ := place.Labels(c.items, at, nil)
		if !slices.Equal(l.At, at) || !slices.Equal(l.Labels, labels) {
			t.Errorf("P20.1: %s: %v, %v", c.name, l.At, l.Labels)
		}
		if !reflect.DeepEqual(before, c.items) {
			t.Errorf("%s: the items are changed", c.name)
		}
	}
}

func TestSymbolsAsTargets(t *testing.T) {
	syms := []eval.Symbol{{Name: "s", Value: 100}, {Name: "s", Value: 1 << 30}, {Name: "t", Value: 1 << 30}}
	l, err := relax.Relax([]api.Item{far("s"), far("t"), jump("t"), jump("s")}, syms, 96)
	if err != nil || !slices.Equal(l.Sizes, []int{2, 8, 4, 2}) || l.Passes != 3 {
		t.Errorf("P20.1: %v, %v", l, err)
	}
	// A distance is reckoned modulo 2^32.
	l, err = relax.Relax([]api.Item{jump("top")}, []eval.Symbol{{Name: "top", Value: 1<<32 - 4}}, 0)
	if err != nil || l.Sizes[0] != 2 {
		t.Errorf("P20.1: %v, %v", l, err)
	}
}

func at(i api.Item, line, col int) api.Item {
	i.Line, i.Col = line, col
	return i
}

func TestFaults(t *testing.T) {
	nop := api.Item{Kind: api.Fixed, Size: 2}
	for _, c := range []struct {
		name      string
		items     []api.Item
		line, col int
		code      api.Code
	}{
		{"undefined", []api.Item{here("x"), at(jump("x"), 1, 1), at(far("y"), 2, 3), at(branch("z"), 4, 5)}, 2, 3, api.Undef},
		{"a branch that is still", []api.Item{at(still(branch("y")), 6, 7)}, 6, 7, api.Undef},
		{"twice ahead of undefined", []api.Item{at(jump("y"), 1, 1), here("x"), at(here("x"), 3, 4)}, 3, 4, api.Twice},
		{"twice, by a symbol", []api.Item{at(here("sym"), 3, 4)}, 3, 4, api.Twice},
		{"odd ahead of twice", []api.Item{here("x"), at(here("x"), 3, 4), bytes(1), at(nop, 8, 9)}, 8, 9, api.Odd},
		{"too many", []api.Item{at(bytes(65537), 8, 9), jump("y")}, 8, 9, api.Range},
		{"too many behind a pass", []api.Item{at(jump("x"), 1, 2), bytes(65532), at(here("y"), 3, 4), at(bytes(2), 5, 6), at(here("x"), 7, 8)}, 5, 6, api.Range},
		{"an Org behind a pass", []api.Item{jump("x"), bytes(10), at(api.Item{Kind: api.Org, Num: 12}, 5, 6), bytes(4000), here("x")}, 5, 6, api.Range},
	} {
		l, err := relax.Relax(c.items, []eval.Symbol{{Name: "sym"}}, 0)
		var f *api.Fault
		if !errors.As(err, &f) || f.Line != c.line || f.Col != c.col || !errors.Is(err, c.code) {
			t.Errorf("P20.1: %s: %v, want %d:%d: %v", c.name, err, c.line, c.col, c.code)
		}
		if !reflect.DeepEqual(l, relax.Layout{}) {
			t.Errorf("P20.1: %s: %v beside an error", c.name, l)
		}
	}
}

func TestTarget(t *testing.T) {
	syms := []eval.Symbol{{Name: "x", Value: 7}, {Name: "y", Value: 8, Class: eval.Place}, {Name: "x", Value: 9}}
	for name, want := range map[string]uint32{"x": 7, "y": 8} {
		if v, ok := relax.Target(api.Item{Name: name}, syms); v != want || !ok {
			t.Errorf("P20.2: %s: %d, %v", name, v, ok)
		}
	}
	if v, ok := relax.Target(jump("z"), syms); v != 0 || ok {
		t.Errorf("P20.2: %d, %v", v, ok)
	}
}

// random is a program without Align and Org, whose targets are labels among its items, of which many are nearly too far.
func random(r *rand.Rand, most int) []api.Item {
	names := []string{"a", "b", "c"}
	var items []api.Item
	for _, n := range names {
		items = append(items, here(n))
	}
	for range 1 + r.Intn(most) {
		name := names[r.Intn(len(names))]
		items = append(items, []api.Item{branch(name), jump(name), far(name), {Kind: api.Branch, Name: name, Grow: true}}[r.Intn(4)])
	}
	for range 3 {
		items = append(items, bytes([]int{2, 120, 252, 254, 256, 1020, 2040, 2044, 2046, 4088, 4092}[r.Intn(11)]))
	}
	r.Shuffle(len(items), func(a, b int) { items[a], items[b] = items[b], items[a] })
	return items
}

// each goes through all choices of a class for each item, and tells those in which every item reaches its target.
func each(t *testing.T, items []api.Item, sizes []int, k int, tell func(sizes []int)) {
	if k < len(items) {
		for _, c := range span.Classes(items[k]) {
			if sizes[k] = 0; leads(items[k]) {
				sizes[k] = c
			}
			each(t, items, sizes, k+1, tell)
		}
		return
	}
	at, err := place.Place(items, sizes, 0)
	if err != nil {
		t.Fatal(err)
	}
	labels, err := place.Labels(items, at, nil)
	if err != nil {
		t.Fatal(err)
	}
	if reached(items, sizes, at, labels) {
		tell(sizes)
	}
}

func leads(i api.Item) bool { return i.Kind == api.Branch || i.Kind == api.Jump || i.Kind == api.Far }

func reached(items []api.Item, sizes []int, at []uint32, labels []eval.Symbol) bool {
	for k, i := range items {
		target, _ := relax.Target(i, labels)
		if leads(i) && !span.Reaches(i, sizes[k], int32(target-at[k])) {
			return false
		}
	}
	return true
}

// TestLeast: no choice of classes in which all targets are reached has, anywhere, a lesser one.
func TestLeast(t *testing.T) {
	r := rand.New(rand.NewSource(20))
	for range 400 {
		items := random(r, 6)
		l, err := relax.Relax(items, nil, 0)
		if err != nil {
			t.Fatal(err)
		}
		if !reached(items, l.Sizes, l.At, l.Labels) {
			t.Fatalf("P20.3: a target isn't reached: %v", l)
		}
		count := 0
		for _, i := range items {
			if leads(i) {
				count++
			}
		}
		if l.Passes > 2*count+1 {
			t.Fatalf("P20.3: %d passes of %d", l.Passes, count)
		}
		each(t, items, make([]int, len(items)), 0, func(sizes []int) {
			for k, s := range sizes {
				if s < l.Sizes[k] {
					t.Fatalf("P20.3: %v is told, but %v is less", l.Sizes, sizes)
				}
			}
		})
	}
}

// chain is jumps of which each makes the one ahead of it grow, and no other: the last is 2 bytes too far,
// and each has room till the one behind it has grown.
func chain(n int) []api.Item {
	var items []api.Item
	for k := range n {
		items = append(items, jump("t"+strconv.Itoa(k)))
	}
	items = append(items, bytes(2050-4*n))
	for k := range n {
		items = append(items, here("t"+strconv.Itoa(k)), bytes(4))
	}
	return items
}

func TestManyPasses(t *testing.T) {
	for _, n := range []int{1, 2, 7, 100, 512} {
		l, err := relax.Relax(chain(n), nil, 0)
		if err != nil || l.Passes != n+1 || slices.Contains(l.Sizes[:n], 2) {
			t.Errorf("P20.1: a chain of %d: %d passes, %v", n, l.Passes, err)
		}
	}
}
