package shape_test

import (
	"math/rand"
	"slices"
	"testing"

	"strata/api"
	"strata/shape"
)

func TestCrowded(t *testing.T) {
	for _, c := range []struct {
		policy   int
		levels   []int
		from, to int
	}{
		{api.Tiered, nil, 0, 0},
		{api.Tiered, []int{0, 0, 0, 0}, 0, 0},
		{api.Tiered, []int{0, 0, 0, 0, 0}, 0, 5},
		{api.Tiered, []int{3, 3, 3, 3, 1, 1, 1, 1, 0, 0, 0, 0}, 0, 0},
		{api.Tiered, []int{3, 3, 3, 3, 3, 1, 1, 1, 1, 1, 0, 0}, 5, 10},
		{api.Tiered, []int{3, 3, 3, 3, 3, 1, 1, 1, 1, 0, 0}, 0, 5},
		{api.Leveled, nil, 0, 0},
		{api.Leveled, []int{0, 0, 0, 0}, 0, 0},
		{api.Leveled, []int{0, 0, 0, 0, 0}, 0, 5},
		{api.Leveled, []int{5, 2, 1, 0, 0, 0, 0}, 0, 0},
		{api.Leveled, []int{2, 2, 1, 1, 0}, 2, 4},
		{api.Leveled, []int{2, 2, 1, 0}, 0, 2},
		{api.Lazy, nil, 0, 0},
		{api.Lazy, []int{0, 0, 0, 0}, 0, 0},
		{api.Lazy, []int{0, 0, 0, 0, 0}, 0, 5},
		{api.Lazy, []int{1}, 0, 0},
		{api.Lazy, []int{1, 1}, 0, 2},
		{api.Lazy, []int{1, 1, 0, 0, 0, 0, 0}, 2, 7},
		{api.Lazy, []int{3, 1, 1, 1, 1, 0, 0, 0, 0}, 0, 0},
		{api.Lazy, []int{3, 1, 1, 1, 1, 1}, 1, 6},
		{api.Lazy, []int{3, 3, 1, 1, 1, 1}, 0, 2},
	} {
		if from, to := shape.Crowded(c.policy, c.levels); from != c.from || to != c.to {
			t.Errorf("Crowded(%d, %v) = %d, %d, want %d, %d", c.policy, c.levels, from, to, c.from, c.to)
		}
	}
}

func TestTarget(t *testing.T) {
	for _, c := range []struct{ policy, level, highest, bytes, want int }{
		{api.Tiered, 0, 0, 1, 1},
		{api.Tiered, 3, 3, 1, 4},
		{api.Tiered, 3, 5, 1 << 20, 4},
		{api.Leveled, 0, 0, 1, 1},
		{api.Leveled, 0, 3, 1 << 20, 1},
		{api.Leveled, 1, 1, 4 * shape.Unit, 1},
		{api.Leveled, 1, 1, 4*shape.Unit + 1, 2},
		{api.Leveled, 2, 9, 16 * shape.Unit, 2},
		{api.Leveled, 2, 9, 16*shape.Unit + 1, 3},
		{api.Leveled, 99, 99, 1 << 20, 99},
		{api.Leveled, 1 << 61, 1 << 61, 1 << 20, 1 << 61},
		{api.Lazy, 0, 0, 1, 1},
		{api.Lazy, 0, 1, 1, 1},
		{api.Lazy, 1, 2, 1, 2},
		{api.Lazy, 1, 1, 4 * shape.Unit, 1},
		{api.Lazy, 1, 1, 4*shape.Unit + 1, 2},
	} {
		if got := shape.Target(c.policy, c.level, c.highest, c.bytes); got != c.want {
			t.Errorf("Target(%d, %d, %d, %d) = %d, want %d", c.policy, c.level, c.highest, c.bytes, got, c.want)
		}
	}
}

// fits tells whether so many tables of each level are in shape, as P10 says it.
func fits(policy int, levels []int) bool {
	count := map[int]int{}
	for _, level := range levels {
		count[level]++
	}
	for level, n := range count {
		alone := policy == api.Leveled && level > 0 || policy == api.Lazy && level > 0 && level == slices.Max(levels)
		if n > api.Fan || alone && n > 1 {
			return false
		}
	}
	return true
}

// Whatever there is, merging what is crowded comes to an end, in shape, and in order.
func TestMergingComesToAnEnd(t *testing.T) {
	r := rand.New(rand.NewSource(1))
	for range 20000 {
		policy := r.Intn(3)
		levels := make([]int, r.Intn(20))
		for i := range levels {
			levels[i] = r.Intn(4)
		}
		slices.SortFunc(levels, func(a, b int) int { return b - a })
		for range 100 {
			from, to := shape.Crowded(policy, levels)
			if (to == 0) != fits(policy, levels) {
				t.Fatalf("Crowded(%d, %v) = %d, %d", policy, levels, from, to)
			}
			if to == 0 {
				break
			}
			var merged []int
			if r.Intn(4) > 0 {
				merged = []int{shape.Target(policy, levels[from], levels[0], r.Intn(1<<20))}
			}
			levels = slices.Concat(levels[:from], merged, levels[to:])
			if !slices.IsSortedFunc(levels, func(a, b int) int { return b - a }) {
				t.Fatalf("the levels are %v", levels)
			}
		}
		if !fits(policy, levels) {
			t.Fatalf("by the policy %d it ends with %v", policy, levels)
		}
	}
}
