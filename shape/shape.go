// Package shape: which node stands above which.
package shape

import "tributary/api"

// Root is the node that all others are under.
const Root = 0

const noParent = -1

// Tree is a tree of nodes. One without nodes is what there is where no tree was made.
type Tree struct {
	nodes   int
	parents [api.MaxNodes]int
}

// Make is the tree that a list of parents tells; false, if it tells none.
func Make(parents []int) (Tree, bool) {
	if len(parents) < 1 || len(parents) > api.MaxNodes {
		return Tree{}, false
	}
	t := Tree{nodes: len(parents)}
	for i := 0; i < len(parents); i++ {
		if !mayBeParent(i, parents[i]) {
			return Tree{}, false
		}
		t.parents[i] = parents[i]
	}
	return t, true
}

// mayBeParent tells whether a node may have that parent. As each stands ahead of its node, every way up ends.
func mayBeParent(node int, parent int) bool {
	if node == Root {
		return parent == noParent
	}
	return parent >= 0 && parent < node
}

// Has tells whether there is such a node.
func (t *Tree) Has(node int) bool {
	return node >= 0 && node < t.nodes
}

// IsLeaf tells whether there is such a node, and it is nobody's parent.
func (t *Tree) IsLeaf(node int) bool {
	if !t.Has(node) {
		return false
	}
	for i := 0; i < t.nodes; i++ {
		if t.parents[i] == node {
			return false
		}
	}
	return true
}

// IsParent tells whether there is such a node, and that is its parent. The root has none.
func (t *Tree) IsParent(parent int, node int) bool {
	return node != Root && t.Has(node) && t.parents[node] == parent
}

// IsUnder tells whether a node is under another one, or is that one.
func (t *Tree) IsUnder(node int, above int) bool {
	for t.Has(node) {
		if node == above {
			return true
		}
		node = t.parents[node]
	}
	return false
}

// LeavesUnder tells how many leaves are under a node.
func (t *Tree) LeavesUnder(node int) int {
	n := 0
	for i := 0; i < t.nodes; i++ {
		under := t.IsUnder(i, node)
		if under && t.IsLeaf(i) {
			n++
		}
	}
	return n
}
