// Package tributary: what many springs have seen, summed up on its way down a tree: see DOC.md.
package tributary

import (
	"tributary/api"
	"tributary/ledger"
	"tributary/shape"
	"tributary/sketch"
)

// Store is a tree of nodes.
type Store struct {
	tree   shape.Tree
	width  int
	living [api.MaxNodes]ledger.Ledger
	stored [api.MaxNodes]ledger.Ledger
}

// Hash tells the hash of a key (P3).
func Hash(key string) uint32 { return sketch.Hash(key) }

// Empty is the empty sketch (P3).
func Empty() api.Sketch { return sketch.Empty() }

// Add adds an event to a sketch (P3).
func Add(s api.Sketch, key string, v int32) api.Sketch { return sketch.Add(s, key, v) }

// Merge merges two sketches (P3).
func Merge(a api.Sketch, b api.Sketch) api.Sketch { return sketch.Merge(a, b) }

// Distinct tells about how many different keys there were (P4).
func Distinct(s api.Sketch) uint64 { return sketch.Distinct(s) }

// Rank tells in which bucket a part of all lies (P5).
func Rank(s api.Sketch, part int) int { return sketch.Rank(s, part) }

// New makes a store (P6).
func New(tree []int, width int) (*Store, api.Errno) {
	t, isTree := shape.Make(tree)
	if !isTree {
		return nil, api.ErrTree
	}
	if width < 1 || width > api.MaxWidth {
		return nil, api.ErrArg
	}
	return &Store{tree: t, width: width}, api.OK
}

// Ingest takes an event in (P7).
func (s *Store) Ingest(leaf int, at int, key string, v int32) api.Errno {
	e := s.leafError(leaf)
	if e != api.OK {
		return e
	}
	window := s.windowOf(at)
	if window == noWindow {
		return api.ErrTime
	}
	if len(key) > api.MaxKey {
		return api.ErrKey
	}
	if s.living[leaf].IsFinal(leaf, window) {
		return api.ErrLate
	}
	s.living[leaf].Add(leaf, window, key, v)
	return api.OK
}

// Advance lets a leaf's watermark go on (P8).
func (s *Store) Advance(leaf int, to int) api.Errno {
	e := s.leafError(leaf)
	if e != api.OK {
		return e
	}
	end := s.windowEnd(api.MaxWindows - 1)
	if to < s.living[leaf].Watermark() || to > end {
		return api.ErrTime
	}
	s.living[leaf].SetWatermark(to)
	for w := 0; w < api.MaxWindows && s.windowEnd(w) <= to; w++ {
		s.living[leaf].Close(leaf, w)
	}
	return api.OK
}

// Sync stores what a node is (P9).
func (s *Store) Sync(node int) api.Errno {
	if !s.has(node) {
		return api.ErrNode
	}
	s.stored[node] = s.living[node].Copy()
	return api.OK
}

// Crash lets a node forget what is not stored (P9).
func (s *Store) Crash(node int) api.Errno {
	if !s.has(node) {
		return api.ErrNode
	}
	s.living[node] = s.stored[node].Copy()
	return api.OK
}

// Send is what a node has stored of some windows (P10).
func (s *Store) Send(node int, low int, high int) (api.Packet, api.Errno) {
	if !s.has(node) {
		return api.Packet{}, api.ErrNode
	}
	if node == shape.Root {
		return api.Packet{}, api.ErrRoot
	}
	if !areWindows(low, high) {
		return api.Packet{}, api.ErrArg
	}
	return api.Packet{From: node, Items: s.stored[node].Items(low, high)}, api.OK
}

// Deliver brings a packet to a node (P11).
func (s *Store) Deliver(node int, p api.Packet) api.Errno {
	if !s.has(node) {
		return api.ErrNode
	}
	// All of it is looked at ahead of the first item that is taken: of a packet that may not be, nothing is.
	if !s.mayCome(node, p) {
		return api.ErrPacket
	}
	for i := 0; i < len(p.Items); i++ {
		s.living[node].Take(p.Items[i])
	}
	return api.OK
}

// Ask tells what a node knows of some windows (P12).
func (s *Store) Ask(node int, low int, high int) (api.Answer, api.Errno) {
	if !s.has(node) {
		return api.Answer{}, api.ErrNode
	}
	if !areWindows(low, high) {
		return api.Answer{}, api.ErrArg
	}
	a := api.Answer{Sketch: sketch.Empty()}
	items := s.living[node].Items(low, high)
	for i := 0; i < len(items); i++ {
		a.Sketch = sketch.Merge(a.Sketch, items[i].Sketch)
		if items[i].Final {
			a.Closed++
		}
	}
	// A node has items of leaves under it alone, and one for each window at most: so none is missing if there are this many.
	a.Sealed = a.Closed == s.tree.LeavesUnder(node)*(high-low+1)
	return a, api.OK
}

// Items lists what a node has (P13).
func (s *Store) Items(node int) []api.Item {
	if !s.has(node) {
		return nil
	}
	return s.living[node].Items(0, api.MaxWindows-1)
}

// Watermark tells how far a leaf is (P13).
func (s *Store) Watermark(leaf int) int {
	if s.leafError(leaf) != api.OK {
		return noWatermark
	}
	return s.living[leaf].Watermark()
}
