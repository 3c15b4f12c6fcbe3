// Tests of P11, and of P1, P2, P9, P10, P12 and P13 for what was delivered.
package tributary_test

import (
	"fmt"
	"math"
	"slices"
	"testing"

	"tributary/api"
	"tributary/tributary"
)

func packet(from int, items ...api.Item) api.Packet {
	return api.Packet{From: from, Items: items}
}

func deliver(t *testing.T, s *tributary.Store, node int, p api.Packet) {
	t.Helper()
	wantErrno(t, fmt.Sprintf("P11: Deliver(%d, %+v)", node, p), s.Deliver(node, p), api.OK)
}

// bring stores what a node has, and delivers all of that to its parent.
func bring(t *testing.T, s *tributary.Store, from int, to int) api.Packet {
	t.Helper()
	syncNode(t, s, from)
	p := packet(from, send(t, s, from, 0, 19)...)
	deliver(t, s, to, p)
	return p
}

// flowed is a store where each node has items and lives otherwise than it is stored: leaves 2, 3 and 4, of which 3 and 4 are under 1.
func flowed(t *testing.T) *tributary.Store {
	t.Helper()
	s := stirred(t)
	for _, leaf := range []int{3, 4} {
		deliver(t, s, 1, packet(leaf, stirredStored(leaf)...))
	}
	deliver(t, s, 0, packet(2, stirredStored(2)...))
	bring(t, s, 1, 0)
	syncNode(t, s, 0)
	for _, leaf := range []int{3, 4} {
		deliver(t, s, 1, packet(leaf, stirredLiving(leaf)...))
	}
	deliver(t, s, 0, packet(2, stirredLiving(2)...))
	return s
}

// flowedText is all that a store as flowed makes it has to tell; it is worked out once.
var flowedText string

// wantRefused: the packet changes nothing of a store as flowed makes it, neither what lives nor what is stored.
func wantRefused(t *testing.T, node int, p api.Packet, want api.Errno) {
	t.Helper()
	if flowedText == "" {
		flowedText = toldBehindACrash(t, flowed(t))
	}
	s := flowed(t)
	what := fmt.Sprintf("P11: Deliver(%d, %.300s)", node, fmt.Sprintf("%+v", p))
	wantErrno(t, what, s.Deliver(node, p), want)
	if toldBehindACrash(t, s) != flowedText {
		t.Errorf("P1: %s was refused, and changed something", what)
	}
}

// TestDeliverWhatWasSent: the way of the document's example, up to a root that is Sealed.
func TestDeliverWhatWasSent(t *testing.T) {
	s := newStore(t, 10, -1, 0, 0, 1, 1)
	ingest(t, s, 2, 5, "a", 100)
	p, e := s.Send(2, 0, 19)
	wantErrno(t, "P10", e, api.OK)
	deliver(t, s, 0, p)
	wantItems(t, s, 0)
	syncNode(t, s, 2)
	p, e = s.Send(2, 0, 19)
	wantErrno(t, "P10", e, api.OK)
	for range 3 {
		deliver(t, s, 0, p)
		wantItems(t, s, 0, itemOf(2, 0, false, 100))
		wantAnswer(t, s, 0, 0, 0, api.Answer{Sketch: sketchOf(100)})
	}
	ingest(t, s, 3, 1, "a", 1)
	ingest(t, s, 4, 11, "a", 2)
	for _, leaf := range []int{2, 3, 4} {
		advance(t, s, leaf, 10)
	}
	bring(t, s, 3, 1)
	wantAnswer(t, s, 1, 0, 0, api.Answer{Sketch: sketchOf(1), Closed: 1})
	bring(t, s, 4, 1)
	wantAnswer(t, s, 1, 0, 0, api.Answer{Sketch: sketchOf(1), Sealed: true, Closed: 2})
	wantAnswer(t, s, 0, 0, 0, api.Answer{Sketch: sketchOf(100)})
	bring(t, s, 1, 0)
	wantAnswer(t, s, 0, 0, 0, api.Answer{Sketch: sketchOf(100, 1), Closed: 2})
	bring(t, s, 2, 0)
	wantAnswer(t, s, 0, 0, 0, api.Answer{Sketch: sketchOf(100, 1), Sealed: true, Closed: 3})
	wantAnswer(t, s, 0, 0, 1, api.Answer{Sketch: sketchOf(100, 1, 2), Closed: 3})
	wantAnswer(t, s, 0, 1, 1, api.Answer{Sketch: sketchOf(2)})
	wantItems(t, s, 0, itemOf(2, 0, true, 100), itemOf(3, 0, true, 1), itemOf(4, 0, true), itemOf(4, 1, false, 2))
	wantItems(t, s, 1, itemOf(3, 0, true, 1), itemOf(4, 0, true), itemOf(4, 1, false, 2))
	deliver(t, s, 0, p)
	wantAnswer(t, s, 0, 0, 0, api.Answer{Sketch: sketchOf(100, 1), Sealed: true, Closed: 3})
}

// TestDeliverToNoNode: whatever the packet is.
func TestDeliverToNoNode(t *testing.T) {
	for _, node := range noNodes {
		for _, p := range []api.Packet{
			{}, packet(1), packet(node), packet(2, itemOf(2, 0, true, 1)),
			packet(1, itemOf(2, 0, true, 1)), packet(5, api.Item{Leaf: -1, Window: 20, Version: -1}),
		} {
			wantRefused(t, node, p, api.ErrNode)
		}
	}
	// The root's own number in the tree is -1: still no node is its parent.
	wantRefused(t, -1, packet(0, itemOf(2, 0, true, 1)), api.ErrNode)
}

// TestDeliverFromAnyNode: to the parent, and to no other node: not to the node itself, a child, a grandparent or another branch.
func TestDeliverFromAnyNode(t *testing.T) {
	parents := []int{-1, 0, 0, 1, 1}
	for _, from := range someNodes {
		for node := range parents {
			items := []api.Item{{Leaf: from, Window: 7, Version: 5}}
			if from == 1 {
				items[0].Leaf = 4
			}
			if from > 0 && from < len(parents) && parents[from] == node {
				s := newStore(t, 10, parents...)
				deliver(t, s, node, packet(from))
				wantItems(t, s, node)
				deliver(t, s, node, packet(from, items...))
				wantItems(t, s, node, items...)
				continue
			}
			wantRefused(t, node, packet(from), api.ErrPacket)
			wantRefused(t, node, packet(from, items...), api.ErrPacket)
			wantRefused(t, node, packet(from, itemOf(3, 7, true, 5)), api.ErrPacket)
		}
	}
}

// TestDeliverInAChain: only the next node above takes a packet.
func TestDeliverInAChain(t *testing.T) {
	it := itemOf(7, 19, true, 1)
	for from := range 8 {
		for node := range 8 {
			s := newStore(t, 1, -1, 0, 1, 2, 3, 4, 5, 6)
			want, items := api.ErrPacket, []api.Item(nil)
			if from == node+1 {
				want, items = api.OK, []api.Item{it}
			}
			wantErrno(t, fmt.Sprintf("P11: from %d to %d", from, node), s.Deliver(node, packet(from, it)), want)
			wantItems(t, s, node, items...)
		}
	}
}

func TestDeliverToARootAlone(t *testing.T) {
	s := newStore(t, 1, -1)
	ingest(t, s, 0, 3, "a", 1)
	for _, from := range someNodes {
		wantErrno(t, "P11: a root alone", s.Deliver(0, packet(from)), api.ErrPacket)
		wantErrno(t, "P11: a root alone", s.Deliver(0, packet(from, itemOf(0, 4, true, 1))), api.ErrPacket)
		wantErrno(t, "P11: no node", s.Deliver(1, packet(from)), api.ErrNode)
	}
	wantItems(t, s, 0, itemOf(0, 3, false, 1))
}

func TestDeliverNothing(t *testing.T) {
	s := flowed(t)
	for _, p := range []api.Packet{{From: 1}, {From: 1, Items: []api.Item{}}, packet(2)} {
		deliver(t, s, 0, p)
	}
	deliver(t, s, 1, packet(3))
	if toldBehindACrash(t, s) != toldBehindACrash(t, flowed(t)) {
		t.Error("P11: a packet with no items changed something")
	}
}

// TestWrongItems: each is laid ahead of, between and behind others that may be; nothing of the packet is taken.
func TestWrongItems(t *testing.T) {
	good := []api.Item{{Leaf: 3, Window: 4, Version: 90, Final: true}, {Leaf: 3, Window: 12, Version: 90}, {Leaf: 4, Window: 0, Version: 90}, {Leaf: 4, Window: 15, Version: 90}}
	wrong := []api.Item{{Leaf: 3, Window: 8, Version: -1}, {Leaf: 3, Window: 8, Version: math.MinInt}, {Leaf: 4, Window: 7, Version: -1, Final: true}}
	for _, leaf := range []int{math.MinInt, -1, 0, 1, 2, 5, 7, 8, math.MaxInt} {
		wrong = append(wrong, api.Item{Leaf: leaf, Window: 8, Version: 90})
	}
	for _, window := range []int{math.MinInt, -1, 20, 21, math.MaxInt} {
		wrong = append(wrong, api.Item{Leaf: 3, Window: window, Version: 90}, api.Item{Leaf: 4, Window: window, Version: 90})
	}
	for _, it := range wrong {
		for at := range len(good) + 1 {
			wantRefused(t, 0, packet(1, slices.Insert(slices.Clone(good), at, it)...), api.ErrPacket)
		}
		wantRefused(t, 0, packet(1, it), api.ErrPacket)
	}
	s := flowed(t)
	deliver(t, s, 0, packet(1, good...))
}

// TestWrongItemsInTheirOrder: each has one fault alone, as its leaf and window are where the order asks for them.
func TestWrongItemsInTheirOrder(t *testing.T) {
	// Leaves 3 and 6 are under 1, by way of 1 and 5; leaf 4 is under 2, and stands between them.
	tree := []int{-1, 0, 0, 1, 2, 1, 5, 0}
	left, right := api.Item{Leaf: 3, Window: 5, Version: 1}, api.Item{Leaf: 6, Window: 5, Version: 1}
	for _, c := range []struct {
		what  string
		items []api.Item
		want  api.Errno
	}{
		{"none is wrong", []api.Item{left, right}, api.OK},
		{"a leaf of another branch", []api.Item{left, {Leaf: 4, Window: 5, Version: 1}, right}, api.ErrPacket},
		{"an inner node between leaves", []api.Item{left, {Leaf: 5, Window: 5, Version: 1}, right}, api.ErrPacket},
		{"a leaf behind all", []api.Item{left, right, {Leaf: 7, Window: 5, Version: 1}}, api.ErrPacket},
		{"no node, behind all", []api.Item{left, right, {Leaf: 8, Window: 5, Version: 1}}, api.ErrPacket},
		{"no node, ahead of all", []api.Item{{Leaf: -1, Window: 5, Version: 1}, left, right}, api.ErrPacket},
		{"the root", []api.Item{{Leaf: 0, Window: 5, Version: 1}, left, right}, api.ErrPacket},
		{"the sender, which is no leaf", []api.Item{{Leaf: 1, Window: 5, Version: 1}, left, right}, api.ErrPacket},
		{"a window below 0, first", []api.Item{{Leaf: 3, Window: -1, Version: 1}, left, right}, api.ErrPacket},
		{"a window below 0, between", []api.Item{left, {Leaf: 6, Window: -1, Version: 1}, right}, api.ErrPacket},
		{"window 20, between", []api.Item{left, {Leaf: 3, Window: 20, Version: 1}, right}, api.ErrPacket},
		{"window 20, last", []api.Item{left, right, {Leaf: 6, Window: 20, Version: 1}}, api.ErrPacket},
		{"a version below 0, first", []api.Item{{Leaf: 3, Window: 0, Version: -1}, left, right}, api.ErrPacket},
		{"a version below 0, between", []api.Item{left, {Leaf: 3, Window: 6, Version: -1}, right}, api.ErrPacket},
		{"a version below 0, last", []api.Item{left, right, {Leaf: 6, Window: 6, Version: -1}}, api.ErrPacket},
		{"the edges of all", []api.Item{{Leaf: 3, Window: 0}, {Leaf: 3, Window: 19, Version: math.MaxInt}, {Leaf: 6, Window: 0}, {Leaf: 6, Window: 19}}, api.OK},
	} {
		s := newStore(t, 10, tree...)
		wantErrno(t, "P11: "+c.what, s.Deliver(0, packet(1, c.items...)), c.want)
		if c.want == api.OK {
			wantItems(t, s, 0, c.items...)
		} else {
			wantItems(t, s, 0)
		}
		wantItems(t, s, 1)
	}
}

// TestItemsOutOfOrder: any two items, where the second is not behind the first.
func TestItemsOutOfOrder(t *testing.T) {
	s := newStore(t, 10, -1, 0, 0, 1, 1)
	var all []api.Item
	for _, leaf := range []int{3, 4} {
		for _, window := range []int{0, 1, 18, 19} {
			all = append(all, api.Item{Leaf: leaf, Window: window, Version: 1})
		}
	}
	for i, a := range all {
		for j, b := range all {
			b.Version, b.Final = 2, true
			want := api.ErrPacket
			if i < j {
				want = api.OK
			}
			fresh := newStore(t, 10, -1, 0, 0, 1, 1)
			wantErrno(t, fmt.Sprintf("P11: %+v ahead of %+v", a, b), fresh.Deliver(0, packet(1, a, b)), want)
			if want != api.OK {
				wantItems(t, fresh, 0)
			}
		}
	}
	for i := range len(all) - 1 {
		swapped, twice := slices.Clone(all), slices.Insert(slices.Clone(all), i, all[i])
		swapped[i], swapped[i+1] = all[i+1], all[i]
		wantErrno(t, "P11: two are swapped", s.Deliver(0, packet(1, swapped...)), api.ErrPacket)
		wantErrno(t, "P11: one is there twice", s.Deliver(0, packet(1, twice...)), api.ErrPacket)
		wantItems(t, s, 0)
	}
	deliver(t, s, 0, packet(1, all...))
	wantItems(t, s, 0, all...)
}

// TestLongPackets: one of all leaves and windows is taken, and one with more items than there can be ends with an error.
func TestLongPackets(t *testing.T) {
	s := newStore(t, 10, -1, 0, 1, 1, 1, 1, 1, 1)
	var all []api.Item
	for leaf := 2; leaf < 8; leaf++ {
		for w := range api.MaxWindows {
			all = append(all, itemOf(leaf, w, true, int32(leaf*w)))
		}
	}
	endless := slices.Repeat(all, 2000)
	wantErrno(t, "P11: too many items", s.Deliver(0, packet(1, endless...)), api.ErrPacket)
	wantItems(t, s, 0)
	deliver(t, s, 0, packet(1, all...))
	wantItems(t, s, 0, all...)
	wantErrno(t, "P11: one too many", s.Deliver(0, packet(1, append(all, itemOf(7, 19, true))...)), api.ErrPacket)
	if a, e := s.Ask(0, 0, 19); !a.Sealed || a.Closed != 120 || a.Sketch.Count != 120 || e != api.OK {
		t.Errorf("P12: Ask = %+v, %d", a, e)
	}
}

// TestNewerOfTwo: what takes the other's place is the one with the greater Version or, of the same, the one that alone is Final.
func TestNewerOfTwo(t *testing.T) {
	versions := []int{0, 1, 2, 65535, 65536, math.MaxInt - 1, math.MaxInt}
	var kinds []api.Item
	for _, v := range versions {
		kinds = append(kinds, api.Item{Leaf: 1, Window: 3, Version: v}, api.Item{Leaf: 1, Window: 3, Version: v, Final: true})
	}
	// The kinds stand by rising newness, as none has the Version and the Final of another.
	for i, old := range kinds {
		for j, young := range kinds {
			s := newStore(t, 10, -1, 0)
			old.Sketch, young.Sketch = sketchOf(1), sketchOf(2)
			deliver(t, s, 0, packet(1, old))
			wantItems(t, s, 0, old)
			deliver(t, s, 0, packet(1, young))
			if j > i {
				wantItems(t, s, 0, young)
			} else {
				wantItems(t, s, 0, old)
			}
		}
	}
}

// TestNewerInParts: of one packet some items are newer, some are not and some are new there.
func TestNewerInParts(t *testing.T) {
	s := newStore(t, 10, -1, 0, 0, 1, 1)
	deliver(t, s, 0, packet(1, itemOf(3, 1, false, 1, 2), itemOf(3, 2, false, 3), itemOf(3, 9, true), itemOf(4, 1, true, 4), itemOf(4, 2, false, 5)))
	deliver(t, s, 0, packet(1, itemOf(3, 0, false, 9), itemOf(3, 1, false, 1), itemOf(3, 2, true, 3), itemOf(3, 9, false, 9),
		itemOf(4, 1, false, 9), itemOf(4, 2, false, 9), itemOf(4, 19, true, 9)))
	wantItems(t, s, 0, itemOf(3, 0, false, 9), itemOf(3, 1, false, 1, 2), itemOf(3, 2, true, 3), itemOf(3, 9, false, 9),
		itemOf(4, 1, true, 4), itemOf(4, 2, false, 5), itemOf(4, 19, true, 9))
}

// TestOtherLeavesAndWindows: how new an item is, is nothing to those of another leaf or window.
func TestOtherLeavesAndWindows(t *testing.T) {
	s := newStore(t, 10, -1, 0, 0, 1, 1)
	deliver(t, s, 1, packet(3, api.Item{Leaf: 3, Window: 5, Version: 100, Final: true}))
	deliver(t, s, 1, packet(4, api.Item{Leaf: 4, Window: 5}))
	deliver(t, s, 1, packet(3, api.Item{Leaf: 3, Window: 4}, api.Item{Leaf: 3, Window: 6}))
	wantItems(t, s, 1, api.Item{Leaf: 3, Window: 4}, api.Item{Leaf: 3, Window: 5, Version: 100, Final: true}, api.Item{Leaf: 3, Window: 6}, api.Item{Leaf: 4, Window: 5})
}

// TestNoneThereYet: an item of which the node has none is taken, also if it tells of nothing.
func TestNoneThereYet(t *testing.T) {
	for _, it := range []api.Item{
		{Leaf: 1}, {Leaf: 1, Sketch: empty}, {Leaf: 1, Window: 19}, {Leaf: 1, Window: 7, Final: true},
		{Leaf: 1, Window: 7, Sketch: sketchOf(1, 2)}, itemOf(1, 0, true), itemOf(1, 19, false, 5),
	} {
		s := newStore(t, 10, -1, 0)
		deliver(t, s, 0, packet(1, it))
		wantItems(t, s, 0, it)
		deliver(t, s, 0, packet(1, api.Item{Leaf: 1, Window: it.Window, Sketch: sketchOf(77)}))
		wantItems(t, s, 0, it)
	}
}

// TestSketchesAsTold: nothing is asked of a sketch, and nothing of it is changed or merged where it takes another's place.
func TestSketchesAsTold(t *testing.T) {
	n := numbers{11}
	for range 300 {
		s := newStore(t, 10, -1, 0, 0, 1, 1)
		var want []api.Item
		all := empty
		for _, leaf := range []int{3, 4} {
			for w := range 3 {
				it := api.Item{Leaf: leaf, Window: w, Version: int(n.next() % 3), Final: n.next()%2 == 0, Sketch: n.sketch()}
				want = append(want, it)
				all = wantMerge(all, it.Sketch)
			}
		}
		deliver(t, s, 0, packet(1, want...))
		wantItems(t, s, 0, want...)
		if a, e := s.Ask(0, 0, 19); a.Sketch != all || e != api.OK {
			t.Errorf("P12: Ask = %+v, %d, want %+v", a, e, all)
		}
		for i := range want {
			want[i].Version += 1 + int(n.next()%3)
			want[i].Sketch = n.sketch()
		}
		deliver(t, s, 0, packet(1, want...))
		wantItems(t, s, 0, want...)
		syncNode(t, s, 0)
		crashNode(t, s, 0)
		wantItems(t, s, 0, want...)
	}
}

// TestAskOfASketchAsTold: one of noughts, which is not the empty sketch, is merged as it is.
func TestAskOfASketchAsTold(t *testing.T) {
	s := newStore(t, 10, -1, 0)
	noughts := api.Item{Leaf: 1, Window: 0, Version: 3, Final: true}
	deliver(t, s, 0, packet(1, noughts))
	wantAnswer(t, s, 0, 0, 0, api.Answer{Sealed: true, Closed: 1})
	deliver(t, s, 0, packet(1, itemOf(1, 1, true, 5)))
	want := sketchOf(5)
	want.Least = 0
	wantAnswer(t, s, 0, 0, 1, api.Answer{Sketch: want, Sealed: true, Closed: 2})
}

// TestFinalAndStillNewer: a greater Version takes the place of an item that is Final, as the words of newer ask.
func TestFinalAndStillNewer(t *testing.T) {
	s := newStore(t, 10, -1, 0)
	deliver(t, s, 0, packet(1, itemOf(1, 2, true, 5)))
	wantAnswer(t, s, 0, 2, 2, api.Answer{Sketch: sketchOf(5), Sealed: true, Closed: 1})
	deliver(t, s, 0, packet(1, itemOf(1, 2, false, 5, 6)))
	wantAnswer(t, s, 0, 2, 2, api.Answer{Sketch: sketchOf(5, 6)})
}

// TestPacketsNobodySent: the node that a packet tells as its own need not have what is in it, nor does it get it.
func TestPacketsNobodySent(t *testing.T) {
	s := newStore(t, 10, -1, 0, 0, 1, 1)
	deliver(t, s, 0, packet(1, itemOf(3, 5, true, 1), itemOf(4, 0, false, 2)))
	wantItems(t, s, 0, itemOf(3, 5, true, 1), itemOf(4, 0, false, 2))
	for node := 1; node < 5; node++ {
		wantItems(t, s, node)
		wantSent(t, s, node, 0, 19)
	}
	ingest(t, s, 3, 55, "a", 9) // the leaf's own item is not Final
	wantWatermark(t, s, 3, 0)
	wantWatermark(t, s, 0, -1)
	bring(t, s, 3, 1)
	bring(t, s, 1, 0)
	wantItems(t, s, 1, itemOf(3, 5, false, 9))
	wantItems(t, s, 0, itemOf(3, 5, true, 1), itemOf(4, 0, false, 2))
}

// orders are all orders of the numbers below n.
func orders(n int) [][]int {
	if n == 0 {
		return [][]int{nil}
	}
	var all [][]int
	for _, order := range orders(n - 1) {
		for at := range n {
			all = append(all, slices.Insert(slices.Clone(order), at, n-1))
		}
	}
	return all
}

// TestPacketsInAnyOrder: of what a leaf sent now and then, some comes, once or twice, in any order: what counts is the newest of it.
func TestPacketsInAnyOrder(t *testing.T) {
	leaf := newStore(t, 10, -1, 0)
	var sent []api.Packet
	for _, step := range []func(){
		func() { ingest(t, leaf, 1, 15, "a", 1) },
		func() { ingest(t, leaf, 1, 12, "a", 2); ingest(t, leaf, 1, 30, "a", 3) },
		func() { advance(t, leaf, 1, 20) },
		func() { ingest(t, leaf, 1, 35, "a", 4) },
		func() { advance(t, leaf, 1, 41) },
	} {
		step()
		sent = append(sent, bring(t, leaf, 1, 0))
	}
	for _, order := range orders(len(sent)) {
		for come := range len(order) + 1 {
			s := newStore(t, 10, -1, 0)
			newest := -1
			for _, i := range order[:come] {
				deliver(t, s, 0, sent[i])
				newest = max(newest, i)
				deliver(t, s, 0, sent[order[0]])
				wantItems(t, s, 0, sent[newest].Items...)
			}
		}
	}
}

// TestPacketsThatDoNotCome: what was lost comes with the next one.
func TestPacketsThatDoNotCome(t *testing.T) {
	s := newStore(t, 10, -1, 0)
	for at := range 5 {
		ingest(t, s, 1, at*40, "a", int32(at))
		syncNode(t, s, 1)
		send(t, s, 1, 0, 19)
		wantItems(t, s, 0)
	}
	bring(t, s, 1, 0)
	wantAnswer(t, s, 0, 0, 19, api.Answer{Sketch: sketchOf(0, 1, 2, 3, 4)})
	wantItems(t, s, 0, s.Items(1)...)
}

// TestPacketsOfSomeWindows: a packet of some windows is nothing to the items of others.
func TestPacketsOfSomeWindows(t *testing.T) {
	s := newStore(t, 10, -1, 0)
	for _, at := range []int{5, 55, 155} {
		ingest(t, s, 1, at, "a", int32(at))
	}
	syncNode(t, s, 1)
	deliver(t, s, 0, packet(1, send(t, s, 1, 5, 14)...))
	wantItems(t, s, 0, itemOf(1, 5, false, 55))
	deliver(t, s, 0, packet(1, send(t, s, 1, 15, 19)...))
	wantItems(t, s, 0, itemOf(1, 5, false, 55), itemOf(1, 15, false, 155))
	deliver(t, s, 0, packet(1, send(t, s, 1, 0, 4)...))
	wantItems(t, s, 0, itemOf(1, 0, false, 5), itemOf(1, 5, false, 55), itemOf(1, 15, false, 155))
}

// TestInnerNodeStoresForgetsAndSends: of several leaves, in their order, however they came.
func TestInnerNodeStoresForgetsAndSends(t *testing.T) {
	// Leaves 3, 4 and 6 are under 1, the last by way of 5.
	s := newStore(t, 10, -1, 0, 0, 1, 1, 1, 5)
	deliver(t, s, 1, packet(4, itemOf(4, 7, false, 1), itemOf(4, 9, true, 2)))
	deliver(t, s, 1, packet(5, itemOf(6, 0, false, 3)))
	deliver(t, s, 1, packet(3, itemOf(3, 19, true, 4)))
	first := []api.Item{itemOf(3, 19, true, 4), itemOf(4, 7, false, 1), itemOf(4, 9, true, 2), itemOf(6, 0, false, 3)}
	wantItems(t, s, 1, first...)
	wantSent(t, s, 1, 0, 19)
	syncNode(t, s, 1)
	wantSent(t, s, 1, 0, 19, first...)
	deliver(t, s, 1, packet(5, itemOf(6, 0, true, 3), itemOf(6, 8, false, 5)))
	deliver(t, s, 1, packet(4, itemOf(4, 0, true), itemOf(4, 7, false, 1, 6), itemOf(4, 8, true, 7)))
	deliver(t, s, 1, packet(3, itemOf(3, 0, true)))
	second := []api.Item{itemOf(3, 0, true), itemOf(3, 19, true, 4), itemOf(4, 0, true), itemOf(4, 7, false, 1, 6),
		itemOf(4, 8, true, 7), itemOf(4, 9, true, 2), itemOf(6, 0, true, 3), itemOf(6, 8, false, 5)}
	wantItems(t, s, 1, second...)
	wantSent(t, s, 1, 0, 19, first...)
	crashNode(t, s, 1)
	wantItems(t, s, 1, first...)
	wantSent(t, s, 1, 0, 19, first...)
	wantAnswer(t, s, 1, 0, 19, api.Answer{Sketch: sketchOf(1, 2, 3, 4), Closed: 2})
	deliver(t, s, 1, packet(4, itemOf(4, 0, true), itemOf(4, 7, false, 1, 6), itemOf(4, 8, true, 7)))
	deliver(t, s, 1, packet(3, itemOf(3, 0, true)))
	deliver(t, s, 1, packet(5, itemOf(6, 0, true, 3), itemOf(6, 8, false, 5)))
	syncNode(t, s, 1)
	crashNode(t, s, 1)
	wantItems(t, s, 1, second...)
	wantSent(t, s, 1, 0, 19, second...)
	wantSent(t, s, 1, 0, 0, itemOf(3, 0, true), itemOf(4, 0, true), itemOf(6, 0, true, 3))
	wantSent(t, s, 1, 7, 8, itemOf(4, 7, false, 1, 6), itemOf(4, 8, true, 7), itemOf(6, 8, false, 5))
	wantSent(t, s, 1, 10, 18)
	deliver(t, s, 0, packet(1, send(t, s, 1, 8, 19)...))
	wantItems(t, s, 0, itemOf(3, 19, true, 4), itemOf(4, 8, true, 7), itemOf(4, 9, true, 2), itemOf(6, 8, false, 5))
}

// TestCrashAndOlderPackets: behind a crash an older item is taken again, where what is stored is older still.
func TestCrashAndOlderPackets(t *testing.T) {
	s := newStore(t, 10, -1, 0)
	one, two, three := packet(1, itemOf(1, 3, false, 1)), packet(1, itemOf(1, 3, false, 1, 2)), packet(1, itemOf(1, 3, true, 1, 2, 3))
	deliver(t, s, 0, one)
	syncNode(t, s, 0)
	deliver(t, s, 0, three)
	deliver(t, s, 0, two)
	wantItems(t, s, 0, three.Items...)
	crashNode(t, s, 0)
	wantItems(t, s, 0, one.Items...)
	deliver(t, s, 0, two)
	wantItems(t, s, 0, two.Items...)
	crashNode(t, s, 0)
	deliver(t, s, 0, three)
	syncNode(t, s, 0)
	crashNode(t, s, 0)
	deliver(t, s, 0, two)
	wantItems(t, s, 0, three.Items...)
}

// TestDeliverToOneNode: what lives there changes, and neither what is stored there nor anything of another node.
func TestDeliverToOneNode(t *testing.T) {
	s := flowed(t)
	before := make([]string, 5)
	for node := range before {
		before[node] = toldOfNode(s, node)
	}
	storedByOne := fmt.Sprintf("%+v", send(t, s, 1, 0, 19))
	deliver(t, s, 1, packet(3, itemOf(3, 0, true, 1), itemOf(3, 19, true, 2)))
	if toldOfNode(s, 1) == before[1] {
		t.Error("P11: what was delivered is not there")
	}
	for _, node := range []int{0, 2, 3, 4} {
		if toldOfNode(s, node) != before[node] {
			t.Errorf("P11: a packet for node 1 changed node %d", node)
		}
	}
	if fmt.Sprintf("%+v", send(t, s, 1, 0, 19)) != storedByOne {
		t.Error("P11: a packet changed what is stored")
	}
	crashNode(t, s, 1)
	atOne := toldOfNode(s, 1)
	deliver(t, s, 0, packet(1, itemOf(3, 7, true, 1), itemOf(4, 7, true, 2)))
	if toldOfNode(s, 1) != atOne {
		t.Error("P11: a packet for node 0 changed node 1, of which it tells")
	}
	// Nothing was stored since: a crash of all leaves just what flowed had stored.
	want := flowed(t)
	for node := range before {
		crashNode(t, s, node)
		crashNode(t, want, node)
	}
	if told(s) != told(want) {
		t.Error("P11: a packet changed what is stored")
	}
}

// toldOfNode is what a node lives with, and what it sends.
func toldOfNode(s *tributary.Store, node int) string {
	sent, e := s.Send(node, 0, 19)
	return fmt.Sprintf("%+v %d %+v %d", s.Items(node), s.Watermark(node), sent, e)
}

// TestSealedOfInnerNodes: of each leaf under the node and each window there must be one that is Final.
func TestSealedOfInnerNodes(t *testing.T) {
	leaves := []int{3, 4}
	for missing := range 5 {
		for _, kind := range []string{"there is none", "it is not Final"} {
			s := newStore(t, 10, -1, 0, 0, 1, 1)
			closed := 0
			for i, leaf := range leaves {
				for w := 6; w <= 7; w++ {
					isMissing := missing == i*2+w-6
					if isMissing && kind == "there is none" {
						continue
					}
					it := itemOf(leaf, w, !isMissing, 8)
					deliver(t, s, 1, packet(leaf, it))
					deliver(t, s, 0, packet(1, it))
					if !isMissing {
						closed++
					}
				}
			}
			a, e := s.Ask(1, 6, 7)
			if a.Sealed != (missing == 4) || a.Closed != closed || e != api.OK {
				t.Errorf("P12: missing %d: Ask = %+v, %d, want Closed %d", missing, a, e, closed)
			}
			// The windows beside these are open, and so is leaf 2, which is under the root alone.
			for _, x := range [][3]int{{1, 5, 7}, {1, 6, 8}, {0, 6, 7}} {
				if a, _ := s.Ask(x[0], x[1], x[2]); a.Sealed || a.Closed != closed {
					t.Errorf("P12: missing %d: Ask(%d, %d, %d) = %+v, want Closed %d", missing, x[0], x[1], x[2], a, closed)
				}
			}
			deliver(t, s, 0, packet(2, itemOf(2, 6, true), itemOf(2, 7, true)))
			if a, _ := s.Ask(0, 6, 7); a.Sealed != (missing == 4) || a.Closed != closed+2 {
				t.Errorf("P12: missing %d: at the root, Ask = %+v, want Closed %d", missing, a, closed+2)
			}
		}
	}
}

// TestPacketIsNotWrittenInto: nor is the room behind its list.
func TestPacketIsNotWrittenInto(t *testing.T) {
	good := []api.Item{itemOf(3, 1, false, 1), itemOf(3, 8, true, 2), itemOf(4, 0, false, 3)}
	wrong := append(slices.Clone(good), itemOf(3, 0, true))
	for _, list := range [][]api.Item{good, wrong} {
		for _, store := range []*tributary.Store{newStore(t, 10, -1, 0, 0, 1, 1), flowed(t)} {
			room := make([]api.Item, len(list)+40)
			for i := range room {
				room[i] = api.Item{Leaf: 9, Window: -5, Version: 77 + i}
			}
			copy(room, list)
			before := slices.Clone(room)
			for range 2 {
				store.Deliver(0, packet(1, room[:len(list)]...))
				store.Deliver(0, packet(1, itemOf(3, 0, true, 7), itemOf(4, 19, true, 7)))
				store.Sync(0)
				store.Crash(0)
				if !slices.Equal(room, before) {
					t.Error("P2: Deliver wrote into what was handed in, or into its spare room")
				}
			}
		}
	}
}

// TestPacketIsNotKept: the caller may write into its list, and into its spare room, and nothing changes.
func TestPacketIsNotKept(t *testing.T) {
	for size := 1; size <= api.MaxWindows; size++ {
		for _, spare := range []int{0, 1, 30} {
			s := newStore(t, 10, -1, 0, 0, 1, 1)
			list := make([]api.Item, 0, size+spare)
			for w := range size {
				list = append(list, itemOf(3, w, w%2 == 0, int32(w)))
			}
			want := slices.Clone(list)
			deliver(t, s, 1, packet(3, list...))
			spoil(list)
			wantItems(t, s, 1, want...)
			syncNode(t, s, 1)
			spoil(list)
			wantSent(t, s, 1, 0, 19, want...)
			more := itemOf(4, 0, true, 9)
			deliver(t, s, 1, packet(4, more))
			spoil(list)
			wantItems(t, s, 1, append(slices.Clone(want), more)...)
			crashNode(t, s, 1)
			spoil(list)
			wantItems(t, s, 1, want...)
		}
	}
}

// TestListsOfADelivery: what was sent, what was delivered and what comes out of it share no room.
func TestListsOfADelivery(t *testing.T) {
	s := flowed(t)
	sent, living := send(t, s, 1, 0, 19), s.Items(0)
	texts := []string{fmt.Sprint(sent[:cap(sent)]), fmt.Sprint(living[:cap(living)])}
	syncNode(t, s, 1)
	again := send(t, s, 1, 0, 19)
	deliver(t, s, 0, packet(1, again...))
	deliver(t, s, 1, packet(3, itemOf(3, 0, true, 1), itemOf(3, 10, true, 2, 3)))
	deliver(t, s, 0, packet(1, itemOf(3, 12, true, 1), itemOf(4, 13, true, 2, 3)))
	if fmt.Sprint(sent[:cap(sent)]) != texts[0] || fmt.Sprint(living[:cap(living)]) != texts[1] {
		t.Error("P2: later calls changed a list that came out")
	}
	before := told(s)
	for _, list := range [][]api.Item{sent, living, again, s.Items(0), s.Items(1), send(t, s, 1, 0, 19), send(t, s, 1, 3, 4)} {
		spoil(list)
		if told(s) != before {
			t.Error("P2: a list that came out and was written into changed the store")
		}
	}
}

// TestDeliveriesOfStoresAreApart: one packet may come to two stores, and what one does with it is nothing to the other.
func TestDeliveriesOfStoresAreApart(t *testing.T) {
	a, b, c := newStore(t, 10, -1, 0), newStore(t, 10, -1, 0), newStore(t, 10, -1, 0)
	fresh := told(c)
	p := packet(1, itemOf(1, 4, false, 1), itemOf(1, 6, false, 2))
	deliver(t, a, 0, p)
	deliver(t, b, 0, p)
	deliver(t, a, 0, packet(1, itemOf(1, 4, true, 1, 2), itemOf(1, 5, true)))
	wantItems(t, b, 0, p.Items...)
	crashNode(t, b, 0)
	wantItems(t, a, 0, itemOf(1, 4, true, 1, 2), itemOf(1, 5, true), itemOf(1, 6, false, 2))
	if told(c) != fresh {
		t.Error("P2: one store changed another")
	}
}
