package shape_test

import (
	"math"
	"testing"

	"tributary/shape"
)

func TestListsThatAreNoTree(t *testing.T) {
	for _, parents := range [][]int{
		nil, {}, {0}, {1}, {-2}, {math.MinInt}, {math.MaxInt},
		{-1, -1}, {-1, 1}, {-1, 2}, {-1, -2}, {-1, math.MinInt}, {-1, math.MaxInt},
		{0, 0}, {-1, 0, 5}, {-1, 0, 2}, {-1, 2, 0}, {-1, 0, -1}, {0, -1},
		{-1, 0, 0, 0, 0, 0, 0, 7}, {-1, 0, 0, 0, 0, 0, 0, -1}, {-1, 0, 0, 0, 0, 0, 0, 0, 0},
	} {
		if tree, ok := shape.Make(parents); ok || tree != (shape.Tree{}) {
			t.Errorf("P6: %v is taken for a tree: %v", parents, tree)
		}
	}
}

// TestShapes: leaves holds the leaves of a tree; under, for each node, the nodes under it.
func TestShapes(t *testing.T) {
	for _, c := range []struct {
		parents []int
		leaves  []int
		under   [][]int
	}{
		{[]int{-1}, []int{0}, [][]int{{0}}},
		{[]int{-1, 0}, []int{1}, [][]int{{0, 1}, {1}}},
		{[]int{-1, 0, 0, 1, 1}, []int{2, 3, 4}, [][]int{{0, 1, 2, 3, 4}, {1, 3, 4}, {2}, {3}, {4}}},
		{[]int{-1, 0, 1, 2, 3, 4, 5, 6}, []int{7}, [][]int{{0, 1, 2, 3, 4, 5, 6, 7}, {1, 2, 3, 4, 5, 6, 7}, {2, 3, 4, 5, 6, 7}, {3, 4, 5, 6, 7}, {4, 5, 6, 7}, {5, 6, 7}, {6, 7}, {7}}},
		{[]int{-1, 0, 0, 0, 0, 0, 0, 0}, []int{1, 2, 3, 4, 5, 6, 7}, [][]int{{0, 1, 2, 3, 4, 5, 6, 7}, {1}, {2}, {3}, {4}, {5}, {6}, {7}}},
		{[]int{-1, 0, 1, 1, 0, 4, 2}, []int{3, 5, 6}, [][]int{{0, 1, 2, 3, 4, 5, 6}, {1, 2, 3, 6}, {2, 6}, {3}, {4, 5}, {5}, {6}}},
	} {
		tree, ok := shape.Make(c.parents)
		if !ok {
			t.Fatalf("P6: %v is not taken for a tree", c.parents)
		}
		for _, node := range []int{math.MinInt, -2, -1, 0, 1, 2, 3, 4, 5, 6, 7, 8, math.MaxInt} {
			there := node >= 0 && node < len(c.parents)
			if tree.Has(node) != there {
				t.Errorf("%v: Has(%d) is not %t", c.parents, node, there)
			}
			if want := has(c.leaves, node); tree.IsLeaf(node) != want {
				t.Errorf("%v: IsLeaf(%d) is not %t", c.parents, node, want)
			}
			leaves := 0
			for _, below := range []int{math.MinInt, -1, 0, 1, 2, 3, 4, 5, 6, 7, 8, math.MaxInt} {
				want := there && has(c.under[node], below)
				if tree.IsUnder(below, node) != want {
					t.Errorf("%v: IsUnder(%d, %d) is not %t", c.parents, below, node, want)
				}
				isParent := below > 0 && below < len(c.parents) && c.parents[below] == node
				if tree.IsParent(node, below) != isParent {
					t.Errorf("%v: IsParent(%d, %d) is not %t", c.parents, node, below, isParent)
				}
				if want && has(c.leaves, below) {
					leaves++
				}
			}
			if got := tree.LeavesUnder(node); got != leaves {
				t.Errorf("%v: LeavesUnder(%d) = %d, want %d", c.parents, node, got, leaves)
			}
		}
	}
}

func has(list []int, x int) bool {
	for _, y := range list {
		if x == y {
			return true
		}
	}
	return false
}
