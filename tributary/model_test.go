// A model of a store that keeps all that happened and was not forgotten, and works each answer out from that, as the document words it.
package tributary_test

import (
	"fmt"
	"slices"
	"testing"

	"tributary/api"
	"tributary/tributary"
)

type event struct {
	leaf, at int
	key      string
	v        int32
}

// past is what happened at one leaf.
type past struct {
	events    []event
	watermark int
}

type model struct {
	tree   []int
	width  int
	living map[int]past
	stored map[int]past
}

func (m *model) isLeaf(node int) bool {
	for _, parent := range m.tree {
		if parent == node {
			return false
		}
	}
	return true
}

func (m *model) leafError(node int) api.Errno {
	switch {
	case node < 0 || node >= len(m.tree):
		return api.ErrNode
	case !m.isLeaf(node):
		return api.ErrLeaf
	}
	return api.OK
}

func (m *model) isClosed(p past, window int) bool {
	return m.width*window+m.width <= p.watermark
}

func (m *model) ingest(e event) api.Errno {
	leafError := m.leafError(e.leaf)
	switch {
	case leafError != api.OK:
		return leafError
	case e.at < 0 || e.at >= 20*m.width:
		return api.ErrTime
	case len(e.key) > 20:
		return api.ErrKey
	case m.isClosed(m.living[e.leaf], e.at/m.width):
		return api.ErrLate
	}
	p := m.living[e.leaf]
	m.living[e.leaf] = past{append(slices.Clone(p.events), e), p.watermark}
	return api.OK
}

func (m *model) advance(leaf int, to int) api.Errno {
	leafError := m.leafError(leaf)
	switch {
	case leafError != api.OK:
		return leafError
	case to < m.living[leaf].watermark || to > 20*m.width:
		return api.ErrTime
	}
	m.living[leaf] = past{m.living[leaf].events, to}
	return api.OK
}

func (m *model) sync(node int) api.Errno {
	if m.leafError(node) == api.ErrNode {
		return api.ErrNode
	}
	m.stored[node] = m.living[node]
	return api.OK
}

func (m *model) crash(node int) api.Errno {
	if m.leafError(node) == api.ErrNode {
		return api.ErrNode
	}
	m.living[node] = m.stored[node]
	return api.OK
}

func (m *model) send(node int, low int, high int) (api.Packet, api.Errno) {
	switch {
	case m.leafError(node) == api.ErrNode:
		return api.Packet{}, api.ErrNode
	case node == 0:
		return api.Packet{}, api.ErrRoot
	case low < 0 || high >= 20 || low > high:
		return api.Packet{}, api.ErrArg
	}
	items := m.items(node, m.stored[node])
	outside := func(it api.Item) bool { return it.Window < low || it.Window > high }
	return api.Packet{From: node, Items: slices.DeleteFunc(items, outside)}, api.OK
}

func (m *model) watermark(leaf int) int {
	if m.leafError(leaf) != api.OK {
		return -1
	}
	return m.living[leaf].watermark
}

// items are those that a past makes: none, where nothing happened.
func (m *model) items(leaf int, p past) []api.Item {
	var list []api.Item
	for w := range 20 {
		it := api.Item{Leaf: leaf, Window: w, Final: m.isClosed(p, w), Sketch: empty}
		for _, e := range p.events {
			if e.at/m.width == w {
				it.Version++
				it.Sketch = wantMerge(it.Sketch, wantOne(e.key, e.v))
			}
		}
		if it.Version > 0 || it.Final {
			list = append(list, it)
		}
	}
	return list
}

func (m *model) ask(node int, low int, high int) (api.Answer, api.Errno) {
	if m.leafError(node) == api.ErrNode {
		return api.Answer{}, api.ErrNode
	}
	if low < 0 || high >= 20 || low > high {
		return api.Answer{}, api.ErrArg
	}
	a := api.Answer{Sketch: empty}
	for _, it := range m.items(node, m.living[node]) {
		if low <= it.Window && it.Window <= high {
			a.Sketch = wantMerge(it.Sketch, a.Sketch)
			if it.Final {
				a.Closed++
			}
		}
	}
	a.Sealed = m.isLeaf(node) && m.isClosed(m.living[node], high)
	return a, api.OK
}

// anyTree has 1 to 9 nodes: those of 9 are too many.
func (n *numbers) anyTree() []int {
	tree := []int{-1}
	nodes := int(n.next()%9) + 1
	for i := 1; i < nodes; i++ {
		tree = append(tree, int(n.next()%uint64(i)))
	}
	return tree
}

// near is a number from one below low to one above high.
func (n *numbers) near(low int, high int) int {
	return low - 1 + int(n.next()%uint64(high-low+3))
}

func TestAnyCalls(t *testing.T) {
	n := numbers{6}
	widths := []int{1, 2, 3, 10, 999, 1000}
	for range 300 {
		m := model{tree: n.anyTree(), width: widths[n.next()%6], living: map[int]past{}, stored: map[int]past{}}
		s, e := tributary.New(m.tree, m.width)
		if len(m.tree) > api.MaxNodes {
			wantErrno(t, "P6: too many nodes", e, api.ErrTree)
			continue
		}
		var calls []string
		for range 80 {
			call := anyCall(t, &n, &m, s)
			calls = append(calls, call)
			compare(t, &n, &m, s)
			if t.Failed() {
				t.Fatalf("tree %v, width %d: %v", m.tree, m.width, calls)
			}
		}
	}
}

// anyCall makes a call that may change something, to the store and to the model.
func anyCall(t *testing.T, n *numbers, m *model, s *tributary.Store) string {
	leaf := n.near(0, len(m.tree)-1)
	switch n.next() % 16 {
	case 0, 1:
		wantErrno(t, "P9: Sync", s.Sync(leaf), m.sync(leaf))
		return fmt.Sprintf("Sync(%d)", leaf)
	case 2:
		wantErrno(t, "P9: Crash", s.Crash(leaf), m.crash(leaf))
		return fmt.Sprintf("Crash(%d)", leaf)
	case 3, 4, 5, 6:
		to := n.near(0, 20*m.width)
		if n.next()%8 != 0 {
			// Most steps are short, so that not all windows are closed at once.
			to = m.living[leaf].watermark + n.near(0, m.width*3/2)
		}
		call := fmt.Sprintf("Advance(%d, %d)", leaf, to)
		wantErrno(t, "P8: "+call, s.Advance(leaf, to), m.advance(leaf, to))
		return call
	}
	e := event{leaf, n.near(0, 20*m.width-1), n.key(), n.value()}
	if n.next()%2 == 0 {
		e.key = e.key[:min(len(e.key), api.MaxKey)]
	}
	call := fmt.Sprintf("Ingest(%d, %d, %q, %d)", e.leaf, e.at, e.key, e.v)
	wantErrno(t, "P7: "+call, s.Ingest(e.leaf, e.at, e.key, e.v), m.ingest(e))
	return call
}

func compare(t *testing.T, n *numbers, m *model, s *tributary.Store) {
	t.Helper()
	for node := -1; node <= len(m.tree); node++ {
		wantItems(t, s, node, m.items(node, m.living[node])...)
		if got, want := s.Watermark(node), m.watermark(node); got != want {
			t.Errorf("P13: Watermark(%d) = %d, want %d", node, got, want)
		}
		low, high := n.near(0, 19), n.near(0, 19)
		got, e := s.Ask(node, low, high)
		want, f := m.ask(node, low, high)
		if got != want || e != f {
			t.Errorf("P12: Ask(%d, %d, %d) = %+v, %d, want %+v, %d", node, low, high, got, e, want, f)
		}
		packet, e := s.Send(node, low, high)
		wantPacket, f := m.send(node, low, high)
		if fmt.Sprintf("%+v", packet) != fmt.Sprintf("%+v", wantPacket) || e != f {
			t.Errorf("P10: Send(%d, %d, %d) = %+v, %d, want %+v, %d", node, low, high, packet, e, wantPacket, f)
		}
	}
}
