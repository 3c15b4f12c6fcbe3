// A model of a store that keeps all that happened and was not forgotten, and works each answer out from that, as the document words it.
package tributary_test

import (
	"cmp"
	"fmt"
	"slices"
	"testing"

	"tributary/api"
	"tributary/tributary"
)

type event struct {
	leaf, at int
	key      string
	v        int32
}

// past is what happened at one node: events and a watermark at a leaf, items that were delivered at another.
type past struct {
	events    []event
	watermark int
	brought   []api.Item
}

type model struct {
	tree   []int
	width  int
	living map[int]past
	stored map[int]past
	sent   []api.Packet
}

func (m *model) isLeaf(node int) bool {
	for _, parent := range m.tree {
		if parent == node {
			return false
		}
	}
	return true
}

func (m *model) leafError(node int) api.Errno {
	switch {
	case node < 0 || node >= len(m.tree):
		return api.ErrNode
	case !m.isLeaf(node):
		return api.ErrLeaf
	}
	return api.OK
}

func (m *model) isClosed(p past, window int) bool {
	return m.width*window+m.width <= p.watermark
}

func (m *model) ingest(e event) api.Errno {
	leafError := m.leafError(e.leaf)
	switch {
	case leafError != api.OK:
		return leafError
	case e.at < 0 || e.at >= 20*m.width:
		return api.ErrTime
	case len(e.key) > 20:
		return api.ErrKey
	case m.isClosed(m.living[e.leaf], e.at/m.width):
		return api.ErrLate
	}
	p := m.living[e.leaf]
	m.living[e.leaf] = past{events: append(slices.Clone(p.events), e), watermark: p.watermark}
	return api.OK
}

func (m *model) advance(leaf int, to int) api.Errno {
	leafError := m.leafError(leaf)
	switch {
	case leafError != api.OK:
		return leafError
	case to < m.living[leaf].watermark || to > 20*m.width:
		return api.ErrTime
	}
	m.living[leaf] = past{events: m.living[leaf].events, watermark: to}
	return api.OK
}

func (m *model) sync(node int) api.Errno {
	if m.leafError(node) == api.ErrNode {
		return api.ErrNode
	}
	m.stored[node] = m.living[node]
	return api.OK
}

func (m *model) crash(node int) api.Errno {
	if m.leafError(node) == api.ErrNode {
		return api.ErrNode
	}
	m.living[node] = m.stored[node]
	return api.OK
}

func (m *model) send(node int, low int, high int) (api.Packet, api.Errno) {
	switch {
	case m.leafError(node) == api.ErrNode:
		return api.Packet{}, api.ErrNode
	case node == 0:
		return api.Packet{}, api.ErrRoot
	case low < 0 || high >= 20 || low > high:
		return api.Packet{}, api.ErrArg
	}
	items := m.items(node, m.stored[node])
	outside := func(it api.Item) bool { return it.Window < low || it.Window > high }
	return api.Packet{From: node, Items: slices.DeleteFunc(items, outside)}, api.OK
}

func (m *model) isUnder(node int, above int) bool {
	return node == above || node > 0 && m.isUnder(m.tree[node], above)
}

// order compares two items by leaf and window.
func order(a api.Item, b api.Item) int {
	return slices.Compare([]int{a.Leaf, a.Window}, []int{b.Leaf, b.Window})
}

func (m *model) deliver(node int, p api.Packet) api.Errno {
	switch {
	case m.leafError(node) == api.ErrNode:
		return api.ErrNode
	case p.From < 1 || p.From >= len(m.tree) || m.tree[p.From] != node:
		return api.ErrPacket
	}
	for i, it := range p.Items {
		switch {
		case m.leafError(it.Leaf) != api.OK || !m.isUnder(it.Leaf, p.From):
			return api.ErrPacket
		case it.Window < 0 || it.Window >= 20 || it.Version < 0:
			return api.ErrPacket
		case i > 0 && order(p.Items[i-1], it) >= 0:
			return api.ErrPacket
		}
	}
	m.living[node] = past{brought: slices.Concat(m.living[node].brought, p.Items)}
	return api.OK
}

// newest are, of all items that were delivered, the first that none is newer than, for each leaf and window.
func newest(brought []api.Item) []api.Item {
	list := slices.Clone(brought)
	slices.SortStableFunc(list, func(a, b api.Item) int {
		switch {
		case order(a, b) != 0:
			return order(a, b)
		case a.Version != b.Version:
			return cmp.Compare(b.Version, a.Version)
		case a.Final == b.Final:
			return 0
		case a.Final:
			return -1
		}
		return 1
	})
	return slices.CompactFunc(list, func(a, b api.Item) bool { return order(a, b) == 0 })
}

func (m *model) watermark(leaf int) int {
	if m.leafError(leaf) != api.OK {
		return -1
	}
	return m.living[leaf].watermark
}

// items are those that a past makes: none, where nothing happened.
func (m *model) items(leaf int, p past) []api.Item {
	list := newest(p.brought)
	for w := range 20 {
		it := api.Item{Leaf: leaf, Window: w, Final: m.isClosed(p, w), Sketch: empty}
		for _, e := range p.events {
			if e.at/m.width == w {
				it.Version++
				it.Sketch = wantMerge(it.Sketch, wantOne(e.key, e.v))
			}
		}
		if it.Version > 0 || it.Final {
			list = append(list, it)
		}
	}
	return list
}

func (m *model) ask(node int, low int, high int) (api.Answer, api.Errno) {
	if m.leafError(node) == api.ErrNode {
		return api.Answer{}, api.ErrNode
	}
	if low < 0 || high >= 20 || low > high {
		return api.Answer{}, api.ErrArg
	}
	a := api.Answer{Sketch: empty}
	final := map[[2]int]bool{}
	for _, it := range m.items(node, m.living[node]) {
		if low <= it.Window && it.Window <= high {
			a.Sketch = wantMerge(it.Sketch, a.Sketch)
			final[[2]int{it.Leaf, it.Window}] = it.Final
			if it.Final {
				a.Closed++
			}
		}
	}
	a.Sealed = true
	for leaf := range m.tree {
		for w := low; w <= high && m.isLeaf(leaf) && m.isUnder(leaf, node); w++ {
			a.Sealed = a.Sealed && final[[2]int{leaf, w}]
		}
	}
	return a, api.OK
}

// anyTree has 1 to 9 nodes: those of 9 are too many.
func (n *numbers) anyTree() []int {
	tree := []int{-1}
	nodes := int(n.next()%9) + 1
	for i := 1; i < nodes; i++ {
		tree = append(tree, int(n.next()%uint64(i)))
	}
	return tree
}

// near is a number from one below low to one above high.
func (n *numbers) near(low int, high int) int {
	return low - 1 + int(n.next()%uint64(high-low+3))
}

func TestAnyCalls(t *testing.T) {
	n := numbers{6}
	widths := []int{1, 2, 3, 10, 999, 1000}
	for range 300 {
		m := model{tree: n.anyTree(), width: widths[n.next()%6], living: map[int]past{}, stored: map[int]past{}}
		s, e := tributary.New(m.tree, m.width)
		if len(m.tree) > api.MaxNodes {
			wantErrno(t, "P6: too many nodes", e, api.ErrTree)
			continue
		}
		var calls []string
		for range 120 {
			call := anyCall(t, &n, &m, s)
			calls = append(calls, call)
			compare(t, &n, &m, s)
			if t.Failed() {
				t.Fatalf("tree %v, width %d: %v", m.tree, m.width, calls)
			}
		}
	}
}

// anyCall makes a call that may change something, to the store and to the model.
func anyCall(t *testing.T, n *numbers, m *model, s *tributary.Store) string {
	leaf := n.near(0, len(m.tree)-1)
	switch n.next() % 24 {
	case 0, 1:
		wantErrno(t, "P9: Sync", s.Sync(leaf), m.sync(leaf))
		return fmt.Sprintf("Sync(%d)", leaf)
	case 2:
		wantErrno(t, "P9: Crash", s.Crash(leaf), m.crash(leaf))
		return fmt.Sprintf("Crash(%d)", leaf)
	case 3, 4, 5, 6:
		to := n.near(0, 20*m.width)
		if n.next()%8 != 0 {
			// Most steps are short, so that not all windows are closed at once.
			to = m.living[leaf].watermark + n.near(0, m.width*3/2)
		}
		call := fmt.Sprintf("Advance(%d, %d)", leaf, to)
		wantErrno(t, "P8: "+call, s.Advance(leaf, to), m.advance(leaf, to))
		return call
	case 7, 8, 9, 10:
		p, _ := s.Send(leaf, n.near(0, 9), n.near(5, 19))
		m.sent = append(m.sent, p)
		return fmt.Sprintf("Send(%d)", leaf)
	case 11, 12, 13, 14:
		if len(m.sent) == 0 {
			return "nothing"
		}
		return deliverOne(t, n, m, s)
	}
	e := event{leaf, n.near(0, 20*m.width-1), n.key(), n.value()}
	if n.next()%2 == 0 {
		e.key = e.key[:min(len(e.key), api.MaxKey)]
	}
	call := fmt.Sprintf("Ingest(%d, %d, %q, %d)", e.leaf, e.at, e.key, e.v)
	wantErrno(t, "P7: "+call, s.Ingest(e.leaf, e.at, e.key, e.v), m.ingest(e))
	return call
}

// deliverOne delivers a packet that was sent now or long ago: most often as it was sent, and to the parent.
func deliverOne(t *testing.T, n *numbers, m *model, s *tributary.Store) string {
	t.Helper()
	p := m.sent[n.next()%uint64(len(m.sent))]
	p.Items = slices.Clone(p.Items)
	node := max(m.tree[p.From], 0)
	switch n.next() % 8 {
	case 0:
		node = n.near(0, len(m.tree)-1)
	case 1:
		p.From = n.near(0, len(m.tree)-1)
	case 2, 3, 4:
		p.Items = n.changed(p.Items)
	}
	call := fmt.Sprintf("Deliver(%d, %+v)", node, p)
	wantErrno(t, "P11: "+call, s.Deliver(node, p), m.deliver(node, p))
	spoil(p.Items)
	return call
}

// changed are items of which one, or none, is another: mostly one that a node takes, or would take if that one were not.
func (n *numbers) changed(items []api.Item) []api.Item {
	if len(items) == 0 {
		return []api.Item{{Leaf: n.near(0, 7), Window: n.near(0, 19), Version: n.near(0, 2), Sketch: n.sketch()}}
	}
	i := int(n.next() % uint64(len(items)))
	switch n.next() % 8 {
	case 0:
		items[i].Leaf = n.near(0, 7)
	case 1:
		items[i].Window = n.near(0, 19)
	case 2:
		items[i].Version += n.near(0, 0)
	case 3:
		items[i].Final = !items[i].Final
	case 4:
		items[i].Sketch = n.sketch()
	case 5:
		items = slices.Delete(items, i, i+1)
	case 6:
		items = slices.Insert(items, i, items[i])
	case 7:
		items[0], items[i] = items[i], items[0]
	}
	return items
}

func compare(t *testing.T, n *numbers, m *model, s *tributary.Store) {
	t.Helper()
	for node := -1; node <= len(m.tree); node++ {
		wantItems(t, s, node, m.items(node, m.living[node])...)
		if got, want := s.Watermark(node), m.watermark(node); got != want {
			t.Errorf("P13: Watermark(%d) = %d, want %d", node, got, want)
		}
		low, high := n.near(0, 19), n.near(0, 19)
		got, e := s.Ask(node, low, high)
		want, f := m.ask(node, low, high)
		if got != want || e != f {
			t.Errorf("P12: Ask(%d, %d, %d) = %+v, %d, want %+v, %d", node, low, high, got, e, want, f)
		}
		packet, e := s.Send(node, low, high)
		wantPacket, f := m.send(node, low, high)
		if fmt.Sprintf("%+v", packet) != fmt.Sprintf("%+v", wantPacket) || e != f {
			t.Errorf("P10: Send(%d, %d, %d) = %+v, %d, want %+v, %d", node, low, high, packet, e, wantPacket, f)
		}
	}
}

// TestSealedIsExact: where packets come as they were sent, but lost, twice or late, and nodes crash, no node above the
// leaves has more events than they have stored, and what it calls Sealed is all of them, and is never another.
func TestSealedIsExact(t *testing.T) {
	n := numbers{12}
	sealed := 0
	for range 150 {
		m := model{tree: n.anyTree(), width: 10, living: map[int]past{}, stored: map[int]past{}}
		s, e := tributary.New(m.tree, m.width)
		if e != api.OK {
			continue
		}
		was := map[[2]int]api.Sketch{}
		for range 200 {
			honestCall(&n, &m, s)
			for node := range m.tree {
				if !m.isLeaf(node) {
					sealed += wantExact(t, &m, s, node, was)
				}
			}
			if t.Failed() {
				t.Fatalf("tree %v", m.tree)
			}
		}
	}
	if sealed == 0 {
		t.Error("nothing was ever Sealed")
	}
}

func honestCall(n *numbers, m *model, s *tributary.Store) {
	node := int(n.next() % uint64(len(m.tree)))
	switch n.next() % 8 {
	case 0:
		e := event{node, int(n.next() % 40), "a", n.value()}
		s.Ingest(e.leaf, e.at, e.key, e.v)
		m.ingest(e)
	case 1:
		to := m.living[node].watermark + int(n.next()%10)
		s.Advance(node, to)
		m.advance(node, to)
	case 2:
		s.Crash(node)
		m.crash(node)
	case 3, 4:
		s.Sync(node)
		m.sync(node)
	case 5:
		p, e := s.Send(node, 0, int(n.next()%20))
		if e == api.OK {
			m.sent = append(m.sent, p)
		}
	case 6, 7:
		if len(m.sent) > 0 {
			p := m.sent[n.next()%uint64(len(m.sent))]
			s.Deliver(m.tree[p.From], p)
		}
	}
}

// wantExact tells how many windows of a node are Sealed. What was Sealed at any time is in was.
func wantExact(t *testing.T, m *model, s *tributary.Store, node int, was map[[2]int]api.Sketch) int {
	t.Helper()
	sealed := 0
	for w := range 20 {
		all := empty
		for leaf := range m.tree {
			for _, it := range m.items(leaf, m.stored[leaf]) {
				if it.Window == w && m.isLeaf(leaf) && m.isUnder(leaf, node) {
					all = wantMerge(all, it.Sketch)
				}
			}
		}
		a, _ := s.Ask(node, w, w)
		if a.Sketch.Count > all.Count {
			t.Errorf("P11: window %d of node %d has %d events, and the leaves %d", w, node, a.Sketch.Count, all.Count)
		}
		if !a.Sealed {
			continue
		}
		sealed++
		at := [2]int{node, w}
		old, isThere := was[at]
		if a.Sketch != all || isThere && a.Sketch != old {
			t.Errorf("P12: window %d of node %d is Sealed as %+v, was %+v, and the leaves have %+v", w, node, a.Sketch, old, all)
		}
		was[at] = a.Sketch
	}
	return sealed
}
