package tributary

import (
	"tributary/api"
	"tributary/ledger"
)

const (
	noWindow    = -1
	noWatermark = -1
)

// has tells whether there is such a node. What New gives beside an error has none.
func (s *Store) has(node int) bool {
	return s != nil && s.tree.Has(node)
}

// leafError is the error of a node that should be a leaf.
func (s *Store) leafError(leaf int) api.Errno {
	if !s.has(leaf) {
		return api.ErrNode
	}
	if !s.tree.IsLeaf(leaf) {
		return api.ErrLeaf
	}
	return api.OK
}

// windowEnd is the first time behind a window. Of the last window, it is the End.
func (s *Store) windowEnd(window int) int {
	return (window + 1) * s.width
}

// windowOf is the window that a time is in; noWindow, if it is in none.
func (s *Store) windowOf(at int) int {
	if at < 0 {
		return noWindow
	}
	for w := 0; w < api.MaxWindows; w++ {
		if at < s.windowEnd(w) {
			return w
		}
	}
	return noWindow
}

// areWindows tells whether low to high are windows that there are, one at least.
func areWindows(low int, high int) bool {
	return low >= 0 && low <= high && high < api.MaxWindows
}

// mayCome tells whether a packet may come to a node: from a child of it, with items that this child may have, in their order.
func (s *Store) mayCome(node int, p api.Packet) bool {
	if !s.tree.IsParent(node, p.From) {
		return false
	}
	for i := 0; i < len(p.Items); i++ {
		if !s.mayHave(p.From, p.Items[i]) {
			return false
		}
		if i > 0 && !ledger.IsAhead(p.Items[i-1], p.Items[i].Leaf, p.Items[i].Window) {
			return false
		}
	}
	return true
}

// mayHave tells whether a node may have an item: nothing is asked of its sketch.
func (s *Store) mayHave(node int, it api.Item) bool {
	if !s.tree.IsLeaf(it.Leaf) {
		return false
	}
	if !s.tree.IsUnder(it.Leaf, node) {
		return false
	}
	return it.Version >= 0 && areWindows(it.Window, it.Window)
}
