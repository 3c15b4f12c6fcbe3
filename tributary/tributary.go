// Package tributary: what many springs have seen, summed up on its way down a tree: see DOC.md.
package tributary

import (
	"tributary/api"
	"tributary/sketch"
)

// Store is a tree of nodes.
type Store struct{}

// Hash tells the hash of a key (P3).
func Hash(key string) uint32 { return sketch.Hash(key) }

// Empty is the empty sketch (P3).
func Empty() api.Sketch { return sketch.Empty() }

// Add adds an event to a sketch (P3).
func Add(s api.Sketch, key string, v int32) api.Sketch { return sketch.Add(s, key, v) }

// Merge merges two sketches (P3).
func Merge(a api.Sketch, b api.Sketch) api.Sketch { return sketch.Merge(a, b) }

// Distinct tells about how many different keys there were (P4).
func Distinct(s api.Sketch) uint64 { return sketch.Distinct(s) }

// Rank tells in which bucket a part of all lies (P5).
func Rank(s api.Sketch, part int) int { return sketch.Rank(s, part) }

// New makes a store (P6).
func New(tree []int, width int) (*Store, api.Errno) { return nil, api.OK }

// Ingest takes an event in (P7).
func (s *Store) Ingest(leaf int, at int, key string, v int32) api.Errno { return api.OK }

// Advance lets a leaf's watermark go on (P8).
func (s *Store) Advance(leaf int, to int) api.Errno { return api.OK }

// Sync stores what a node is (P9).
func (s *Store) Sync(node int) api.Errno { return api.OK }

// Crash lets a node forget what is not stored (P9).
func (s *Store) Crash(node int) api.Errno { return api.OK }

// Send is what a node has stored of some windows (P10).
func (s *Store) Send(node int, low int, high int) (api.Packet, api.Errno) {
	return api.Packet{}, api.OK
}

// Deliver brings a packet to a node (P11).
func (s *Store) Deliver(node int, p api.Packet) api.Errno { return api.OK }

// Ask tells what a node knows of some windows (P12).
func (s *Store) Ask(node int, low int, high int) (api.Answer, api.Errno) {
	return api.Answer{}, api.OK
}

// Items lists what a node has (P13).
func (s *Store) Items(node int) []api.Item { return nil }

// Watermark tells how far a leaf is (P13).
func (s *Store) Watermark(leaf int) int { return 0 }
