package kind_test

import (
	"slices"
	"testing"

	"typecase/api"
	"typecase/kind"
)

func TestKinds(t *testing.T) {
	leading := []int{api.Branch, api.Jump, api.Far}
	others := []int{api.Fixed, api.Late, api.Addr}
	for k := -1; k < 14; k++ {
		i := api.Item{Kind: k}
		if kind.Leads(i) != slices.Contains(leading, k) || kind.IsInstruction(i) != (slices.Contains(leading, k) || slices.Contains(others, k)) {
			t.Errorf("kind %d: %v, %v", k, kind.Leads(i), kind.IsInstruction(i))
		}
	}
}
