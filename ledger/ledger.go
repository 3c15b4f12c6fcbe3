// Package ledger: what one node has: its items and, if it is a leaf, its watermark.
package ledger

import (
	"tributary/api"
	"tributary/sketch"
)

// Ledger is what one node has.
type Ledger struct {
	items     []api.Item // by rising leaves, those of one leaf by rising windows
	watermark int
}

// Watermark tells the watermark.
func (l *Ledger) Watermark() int { return l.watermark }

// SetWatermark lets the watermark go on to a time.
func (l *Ledger) SetWatermark(to int) { l.watermark = to }

// IsFinal tells whether there is an item of that leaf and window that is Final.
func (l *Ledger) IsFinal(leaf int, window int) bool {
	it := l.item(leaf, window)
	return it.Final
}

// Add lets an event join the item of that leaf and window.
func (l *Ledger) Add(leaf int, window int, key string, v int32) {
	it := l.item(leaf, window)
	it.Version++
	it.Sketch = sketch.Add(it.Sketch, key, v)
	l.put(it)
}

// Close makes the item of that leaf and window Final.
func (l *Ledger) Close(leaf int, window int) {
	it := l.item(leaf, window)
	it.Final = true
	l.put(it)
}

// Take lays an item in the place of the one of its leaf and window, if it is newer than that, or if there is none.
func (l *Ledger) Take(it api.Item) {
	place := l.place(it.Leaf, it.Window)
	isThere := l.isAt(place, it.Leaf, it.Window)
	if isThere && !isNewer(it, l.items[place]) {
		return
	}
	l.put(it)
}

// isNewer tells whether an item is newer than another one of the same leaf and window.
func isNewer(it api.Item, other api.Item) bool {
	if it.Version != other.Version {
		return it.Version > other.Version
	}
	return it.Final && !other.Final
}

// Items lists the items of the windows from low to high.
func (l *Ledger) Items(low int, high int) []api.Item {
	var list []api.Item
	for i := 0; i < len(l.items); i++ {
		if l.items[i].Window >= low && l.items[i].Window <= high {
			list = append(list, l.items[i])
		}
	}
	return list
}

// Copy is the same ledger with room of its own: as put writes into the items where they lie, two ledgers never share them.
func (l *Ledger) Copy() Ledger {
	return Ledger{items: l.Items(0, api.MaxWindows-1), watermark: l.watermark}
}

// item is the item of that leaf and window; if there is none, what a new one begins as.
func (l *Ledger) item(leaf int, window int) api.Item {
	i := l.place(leaf, window)
	if l.isAt(i, leaf, window) {
		return l.items[i]
	}
	return api.Item{Leaf: leaf, Window: window, Sketch: sketch.Empty()}
}

// put lays an item where the order asks for it, in the place of the one of the same leaf and window.
func (l *Ledger) put(it api.Item) {
	place := l.place(it.Leaf, it.Window)
	if !l.isAt(place, it.Leaf, it.Window) {
		l.items = append(l.items, it)
		for i := len(l.items) - 1; i > place; i-- {
			l.items[i] = l.items[i-1]
		}
	}
	l.items[place] = it
}

// place is where the item of that leaf and window stands, or would stand.
func (l *Ledger) place(leaf int, window int) int {
	place := 0
	for place < len(l.items) && IsAhead(l.items[place], leaf, window) {
		place++
	}
	return place
}

// isAt tells whether the item of that leaf and window stands at a place.
func (l *Ledger) isAt(place int, leaf int, window int) bool {
	return place < len(l.items) && l.items[place].Leaf == leaf && l.items[place].Window == window
}

// IsAhead tells whether an item stands ahead of that leaf and window.
func IsAhead(it api.Item, leaf int, window int) bool {
	return it.Leaf < leaf || it.Leaf == leaf && it.Window < window
}
