package tributary

import "tributary/api"

const (
	noWindow    = -1
	noWatermark = -1
)

// has tells whether there is such a node. What New gives beside an error has none.
func (s *Store) has(node int) bool {
	return s != nil && s.tree.Has(node)
}

// leafError is the error of a node that should be a leaf.
func (s *Store) leafError(leaf int) api.Errno {
	if !s.has(leaf) {
		return api.ErrNode
	}
	if !s.tree.IsLeaf(leaf) {
		return api.ErrLeaf
	}
	return api.OK
}

// windowEnd is the first time behind a window. Of the last window, it is the End.
func (s *Store) windowEnd(window int) int {
	return (window + 1) * s.width
}

// windowOf is the window that a time is in; noWindow, if it is in none.
func (s *Store) windowOf(at int) int {
	if at < 0 {
		return noWindow
	}
	for w := 0; w < api.MaxWindows; w++ {
		if at < s.windowEnd(w) {
			return w
		}
	}
	return noWindow
}

// areWindows tells whether low to high are windows that there are, one at least.
func areWindows(low int, high int) bool {
	return low >= 0 && low <= high && high < api.MaxWindows
}
