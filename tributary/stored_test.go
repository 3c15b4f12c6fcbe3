// Tests of P9 and P10, and of P1 and P2 for the calls that these name.
package tributary_test

import (
	"fmt"
	"math"
	"testing"

	"tributary/api"
	"tributary/tributary"
)

// noNodes are no nodes of a tree of five.
var noNodes = []int{math.MinInt, -2, -1, 5, 7, 8, 9, math.MaxInt}

func syncNode(t *testing.T, s *tributary.Store, node int) {
	t.Helper()
	wantErrno(t, fmt.Sprintf("P9: Sync(%d)", node), s.Sync(node), api.OK)
}

func crashNode(t *testing.T, s *tributary.Store, node int) {
	t.Helper()
	wantErrno(t, fmt.Sprintf("P9: Crash(%d)", node), s.Crash(node), api.OK)
}

func send(t *testing.T, s *tributary.Store, node int, low int, high int) []api.Item {
	t.Helper()
	p, e := s.Send(node, low, high)
	if e != api.OK || p.From != node {
		t.Errorf("P10: Send(%d, %d, %d) is from %d, %d", node, low, high, p.From, e)
	}
	return p.Items
}

func wantSent(t *testing.T, s *tributary.Store, node int, low int, high int, want ...api.Item) {
	t.Helper()
	got := send(t, s, node, low, high)
	if fmt.Sprintf("%+v", got) != fmt.Sprintf("%+v", want) {
		t.Errorf("P10: Send(%d, %d, %d) = %+v, want %+v", node, low, high, got, want)
	}
}

func wantNotSent(t *testing.T, s *tributary.Store, node int, low int, high int, want api.Errno) {
	t.Helper()
	p, e := s.Send(node, low, high)
	if e != want || p.From != 0 || len(p.Items) != 0 {
		t.Errorf("P10: Send(%d, %d, %d) = %+v, %d, want noughts, %d", node, low, high, p, e, want)
	}
}

func wantWatermark(t *testing.T, s *tributary.Store, leaf int, want int) {
	t.Helper()
	if got := s.Watermark(leaf); got != want {
		t.Errorf("P9: Watermark(%d) = %d, want %d", leaf, got, want)
	}
}

// spoil writes into a list and into its spare room.
func spoil(list []api.Item) {
	list = list[:cap(list)]
	for i := range list {
		list[i] = api.Item{Leaf: 9, Window: -5, Version: 77, Final: true}
	}
}

// TestSendAroundASync: what is sent is what was stored last, whatever lives.
func TestSendAroundASync(t *testing.T) {
	s := newStore(t, 10, -1, 0, 0, 1, 1)
	ingest(t, s, 2, 5, "a", 100)
	wantSent(t, s, 2, 0, 19)
	syncNode(t, s, 2)
	wantSent(t, s, 2, 0, 19, itemOf(2, 0, false, 100))
	ingest(t, s, 2, 9, "a", 7)
	ingest(t, s, 2, 55, "a", 8)
	advance(t, s, 2, 30)
	wantSent(t, s, 2, 0, 19, itemOf(2, 0, false, 100))
	syncNode(t, s, 2)
	want := []api.Item{itemOf(2, 0, true, 100, 7), itemOf(2, 1, true), itemOf(2, 2, true), itemOf(2, 5, false, 8)}
	wantSent(t, s, 2, 0, 19, want...)
	wantItems(t, s, 2, want...)
	syncNode(t, s, 2)
	wantSent(t, s, 2, 0, 19, want...)
	wantItems(t, s, 2, want...)
	wantWatermark(t, s, 2, 30)
}

// TestSyncsOneAfterAnother: each takes the place of the one ahead of it, also if it has items ahead of those, or between them.
func TestSyncsOneAfterAnother(t *testing.T) {
	s := newStore(t, 10, -1, 0)
	for _, at := range []int{100, 199, 0, 50, 150, 20} {
		ingest(t, s, 1, at, "a", int32(at))
		before := send(t, s, 1, 0, 19)
		syncNode(t, s, 1)
		after := send(t, s, 1, 0, 19)
		if len(after) != len(before)+1 {
			t.Errorf("P9: %d items are stored, behind %d", len(after), len(before))
		}
		wantItems(t, s, 1, after...)
	}
	wantSent(t, s, 1, 0, 19, itemOf(1, 0, false, 0), itemOf(1, 2, false, 20), itemOf(1, 5, false, 50),
		itemOf(1, 10, false, 100), itemOf(1, 15, false, 150), itemOf(1, 19, false, 199))
}

// TestCrashBeforeAnySync: of a node that was never stored nothing is left.
func TestCrashBeforeAnySync(t *testing.T) {
	s := newStore(t, 10, -1, 0, 0, 1, 1)
	fresh := told(s)
	for node := range 5 {
		crashNode(t, s, node)
	}
	if told(s) != fresh {
		t.Error("P9: a crash of nodes that have nothing changed something")
	}
	ingest(t, s, 3, 5, "a", 1)
	ingest(t, s, 3, 77, "a", 2)
	advance(t, s, 3, 40)
	crashNode(t, s, 3)
	wantItems(t, s, 3)
	wantWatermark(t, s, 3, 0)
	wantSent(t, s, 3, 0, 19)
	if told(s) != fresh {
		t.Error("P9: a crash of a node that was never stored left something")
	}
	ingest(t, s, 3, 0, "a", 9)
	wantItems(t, s, 3, itemOf(3, 0, false, 9))
}

// TestCrashForgets: behind a crash a leaf has the items and the watermark that were stored, and goes on from there.
func TestCrashForgets(t *testing.T) {
	s := newStore(t, 10, -1, 0, 0, 1, 1)
	ingest(t, s, 2, 5, "a", 100)
	ingest(t, s, 2, 25, "a", 3)
	advance(t, s, 2, 12)
	syncNode(t, s, 2)
	want := []api.Item{itemOf(2, 0, true, 100), itemOf(2, 2, false, 3)}
	for range 2 {
		ingest(t, s, 2, 25, "a", 4)
		ingest(t, s, 2, 15, "a", 5)
		ingest(t, s, 2, 199, "a", 6)
		advance(t, s, 2, 31)
		wantErrno(t, "P7: ahead of the crash", s.Ingest(2, 25, "a", 1), api.ErrLate)
		wantSent(t, s, 2, 0, 19, want...)
		crashNode(t, s, 2)
		crashNode(t, s, 2)
		wantItems(t, s, 2, want...)
		wantSent(t, s, 2, 0, 19, want...)
		wantWatermark(t, s, 2, 12)
		wantAnswer(t, s, 2, 0, 19, api.Answer{Sketch: sketchOf(100, 3), Closed: 1})
		wantErrno(t, "P7: Final, as it was stored", s.Ingest(2, 9, "a", 1), api.ErrLate)
		wantErrno(t, "P8: below the watermark, as it was stored", s.Advance(2, 11), api.ErrTime)
	}
}

// TestCrashBringsWindowsBack: a window that was closed since the Sync is open again behind a crash.
func TestCrashBringsWindowsBack(t *testing.T) {
	s := newStore(t, 10, -1, 0, 0, 1, 1)
	ingest(t, s, 2, 5, "a", 100)
	syncNode(t, s, 2)
	advance(t, s, 2, 10)
	wantErrno(t, "P7: Final", s.Ingest(2, 9, "a", 1), api.ErrLate)
	ingest(t, s, 2, 10, "a", 1)
	crashNode(t, s, 2)
	wantItems(t, s, 2, itemOf(2, 0, false, 100))
	wantWatermark(t, s, 2, 0)
	ingest(t, s, 2, 9, "a", 2)
	advance(t, s, 2, 1)
	wantItems(t, s, 2, itemOf(2, 0, false, 100, 2))
	wantSent(t, s, 2, 0, 19, itemOf(2, 0, false, 100))
}

// TestBehindACrash: what comes in behind a crash lives, and is stored by the next Sync alone.
func TestBehindACrash(t *testing.T) {
	s := newStore(t, 10, -1, 0)
	for _, at := range []int{30, 60, 90} {
		ingest(t, s, 1, at, "a", int32(at))
	}
	syncNode(t, s, 1)
	stored := []api.Item{itemOf(1, 3, false, 30), itemOf(1, 6, false, 60), itemOf(1, 9, false, 90)}
	crashNode(t, s, 1)
	ingest(t, s, 1, 65, "a", 1)
	ingest(t, s, 1, 199, "a", 2)
	ingest(t, s, 1, 45, "a", 3)
	wantSent(t, s, 1, 0, 19, stored...)
	advance(t, s, 1, 40)
	wantSent(t, s, 1, 0, 19, stored...)
	want := []api.Item{itemOf(1, 0, true), itemOf(1, 1, true), itemOf(1, 2, true), itemOf(1, 3, true, 30),
		itemOf(1, 4, false, 3), itemOf(1, 6, false, 60, 1), itemOf(1, 9, false, 90), itemOf(1, 19, false, 2)}
	wantItems(t, s, 1, want...)
	wantWatermark(t, s, 1, 40)
	syncNode(t, s, 1)
	wantSent(t, s, 1, 0, 19, want...)
	advance(t, s, 1, 200)
	crashNode(t, s, 1)
	wantItems(t, s, 1, want...)
	wantWatermark(t, s, 1, 40)
}

// TestWatermarkAloneIsStored: it is stored and comes back where no item tells of it.
func TestWatermarkAloneIsStored(t *testing.T) {
	s := newStore(t, 10, -1, 0)
	advance(t, s, 1, 3)
	syncNode(t, s, 1)
	advance(t, s, 1, 7)
	crashNode(t, s, 1)
	wantWatermark(t, s, 1, 3)
	advance(t, s, 1, 9)
	syncNode(t, s, 1)
	crashNode(t, s, 1)
	wantWatermark(t, s, 1, 9)
	wantItems(t, s, 1)
	wantSent(t, s, 1, 0, 19)
}

// TestEmptyItemsAreStored: items without events are Final, and are stored and sent like others.
func TestEmptyItemsAreStored(t *testing.T) {
	s := newStore(t, 1000, -1, 0)
	advance(t, s, 1, 20000)
	syncNode(t, s, 1)
	var want []api.Item
	for w := range api.MaxWindows {
		want = append(want, itemOf(1, w, true))
	}
	wantSent(t, s, 1, 0, 19, want...)
	crashNode(t, s, 1)
	wantItems(t, s, 1, want...)
	wantWatermark(t, s, 1, 20000)
	wantAnswer(t, s, 1, 0, 19, api.Answer{Sketch: empty, Sealed: true, Closed: 20})
}

func TestSendOfSomeWindows(t *testing.T) {
	s := newStore(t, 10, -1, 0, 0)
	for _, at := range []int{195, 0, 45, 53} {
		ingest(t, s, 2, at, "a", int32(at))
	}
	syncNode(t, s, 2)
	first, fourth, fifth, last := itemOf(2, 0, false, 0), itemOf(2, 4, false, 45), itemOf(2, 5, false, 53), itemOf(2, 19, false, 195)
	wantSent(t, s, 2, 0, 19, first, fourth, fifth, last)
	wantSent(t, s, 2, 0, 0, first)
	wantSent(t, s, 2, 1, 3)
	wantSent(t, s, 2, 1, 4, fourth)
	wantSent(t, s, 2, 4, 4, fourth)
	wantSent(t, s, 2, 4, 5, fourth, fifth)
	wantSent(t, s, 2, 5, 5, fifth)
	wantSent(t, s, 2, 0, 18, first, fourth, fifth)
	wantSent(t, s, 2, 6, 18)
	wantSent(t, s, 2, 5, 19, fifth, last)
	wantSent(t, s, 2, 19, 19, last)
	wantSent(t, s, 1, 0, 19)
}

// stirred is a store where each leaf lives otherwise than it is stored.
func stirred(t *testing.T) *tributary.Store {
	t.Helper()
	s := newStore(t, 10, -1, 0, 0, 1, 1)
	for _, leaf := range []int{2, 3, 4} {
		ingest(t, s, leaf, 35, "a", int32(leaf))
		advance(t, s, leaf, 10*leaf)
		syncNode(t, s, leaf)
		ingest(t, s, leaf, 105, "a", 7)
		advance(t, s, leaf, 50+leaf)
	}
	return s
}

// stirredStored is what such a leaf has stored.
func stirredStored(leaf int) []api.Item {
	list := []api.Item{itemOf(leaf, 0, true), itemOf(leaf, 1, true)}
	if leaf > 2 {
		list = append(list, itemOf(leaf, 2, true))
	}
	return append(list, itemOf(leaf, 3, leaf > 3, int32(leaf)))
}

// stirredLiving is what such a leaf lives with.
func stirredLiving(leaf int) []api.Item {
	return []api.Item{itemOf(leaf, 0, true), itemOf(leaf, 1, true), itemOf(leaf, 2, true),
		itemOf(leaf, 3, true, int32(leaf)), itemOf(leaf, 4, true), itemOf(leaf, 10, false, 7)}
}

// toldBehindACrash is what a store tells, now and when every node has crashed: so all that lives, and all that is stored.
func toldBehindACrash(t *testing.T, s *tributary.Store) string {
	t.Helper()
	text := told(s)
	for node := range 5 {
		crashNode(t, s, node)
	}
	return text + told(s)
}

func TestSyncAndCrashErrors(t *testing.T) {
	s := stirred(t)
	for _, node := range noNodes {
		wantErrno(t, fmt.Sprintf("P9: Sync(%d)", node), s.Sync(node), api.ErrNode)
		wantErrno(t, fmt.Sprintf("P9: Crash(%d)", node), s.Crash(node), api.ErrNode)
	}
	if toldBehindACrash(t, s) != toldBehindACrash(t, stirred(t)) {
		t.Error("P1: a Sync or a Crash that was refused changed something")
	}
}

func TestSendErrors(t *testing.T) {
	s := stirred(t)
	wrong := [][2]int{{-1, 0}, {-1, -1}, {-1, 19}, {0, 20}, {19, 20}, {20, 20}, {20, 19}, {3, 2}, {19, 0}, {0, -1},
		{math.MinInt, math.MaxInt}, {math.MaxInt, math.MinInt}, {0, math.MaxInt}, {math.MinInt, 19}}
	for _, w := range append(wrong, [2]int{0, 0}, [2]int{0, 19}, [2]int{19, 19}) {
		for _, node := range noNodes {
			wantNotSent(t, s, node, w[0], w[1], api.ErrNode)
		}
		wantNotSent(t, s, 0, w[0], w[1], api.ErrRoot)
	}
	for _, w := range wrong {
		for node := 1; node < 5; node++ {
			wantNotSent(t, s, node, w[0], w[1], api.ErrArg)
		}
	}
	if toldBehindACrash(t, s) != toldBehindACrash(t, stirred(t)) {
		t.Error("P1: a Send that was refused changed something")
	}
}

// TestRefusedCallsStoreNothing: calls that are refused change what is stored no more than what lives.
func TestRefusedCallsStoreNothing(t *testing.T) {
	s := stirred(t)
	for _, leaf := range []int{2, 3, 4} {
		wantErrno(t, "P7: Final", s.Ingest(leaf, 5, "a", 1), api.ErrLate)
		wantErrno(t, "P7: too long", s.Ingest(leaf, 150, tooLong, 1), api.ErrKey)
		wantErrno(t, "P8: back", s.Advance(leaf, 40), api.ErrTime)
		wantErrno(t, "P8: above the End", s.Advance(leaf, 201), api.ErrTime)
	}
	if toldBehindACrash(t, s) != toldBehindACrash(t, stirred(t)) {
		t.Error("P1: a call that was refused changed something")
	}
}

// TestAskingStoresNothing: Send, Ask, Items and Watermark change nothing, living or stored.
func TestAskingStoresNothing(t *testing.T) {
	s := stirred(t)
	before := told(s)
	if told(s) != before {
		t.Error("P10: asking once more answers something else")
	}
	if toldBehindACrash(t, s) != toldBehindACrash(t, stirred(t)) {
		t.Error("P10: asking changed something")
	}
}

// TestCrashOfOneNode: it is nothing to another node.
func TestCrashOfOneNode(t *testing.T) {
	for node := range 5 {
		s := stirred(t)
		crashNode(t, s, node)
		for _, leaf := range []int{2, 3, 4} {
			wantSent(t, s, leaf, 0, 19, stirredStored(leaf)...)
			if leaf == node {
				wantItems(t, s, leaf, stirredStored(leaf)...)
				wantWatermark(t, s, leaf, 10*leaf)
			} else {
				wantItems(t, s, leaf, stirredLiving(leaf)...)
				wantWatermark(t, s, leaf, 50+leaf)
			}
		}
	}
}

// TestSyncOfOneNode: it stores nothing of another node, neither of one beside it nor of one above it or under it.
func TestSyncOfOneNode(t *testing.T) {
	for node := range 5 {
		s, want := newStore(t, 10, -1, 0, 0, 1, 1), newStore(t, 10, -1, 0, 0, 1, 1)
		for _, leaf := range []int{2, 3, 4} {
			ingest(t, s, leaf, 35, "a", int32(leaf))
			advance(t, s, leaf, 15)
			if leaf == node {
				ingest(t, want, leaf, 35, "a", int32(leaf))
				advance(t, want, leaf, 15)
			}
		}
		syncNode(t, s, node)
		for other := range 5 {
			crashNode(t, s, other)
		}
		syncNode(t, want, node)
		if told(s) != told(want) {
			t.Errorf("P9: Sync(%d) stored something of another node, or not all of its own", node)
		}
	}
}

// TestSyncAndCrashOfInnerNodes: where nothing was delivered to them, there is nothing to be stored or forgotten, and what is under them stays as it is.
func TestSyncAndCrashOfInnerNodes(t *testing.T) {
	s := stirred(t)
	for _, node := range []int{0, 1} {
		crashNode(t, s, node)
		syncNode(t, s, node)
		syncNode(t, s, node)
		crashNode(t, s, node)
		wantItems(t, s, node)
		wantWatermark(t, s, node, -1)
	}
	wantSent(t, s, 1, 0, 19)
	if toldBehindACrash(t, s) != toldBehindACrash(t, stirred(t)) {
		t.Error("P9: Sync or Crash of an inner node changed something under it")
	}
}

// TestRootAloneIsStored: a root that is a leaf is stored and crashes like one, but sends nothing.
func TestRootAloneIsStored(t *testing.T) {
	s := newStore(t, 1, -1)
	ingest(t, s, 0, 19, "a", 9)
	advance(t, s, 0, 1)
	syncNode(t, s, 0)
	advance(t, s, 0, 20)
	crashNode(t, s, 0)
	wantItems(t, s, 0, itemOf(0, 0, true), itemOf(0, 19, false, 9))
	wantWatermark(t, s, 0, 1)
	wantNotSent(t, s, 0, 0, 19, api.ErrRoot)
	wantNotSent(t, s, 0, 5, 4, api.ErrRoot)
	wantNotSent(t, s, 1, 0, 19, api.ErrNode)
	wantErrno(t, "P9: no node", s.Sync(1), api.ErrNode)
	wantErrno(t, "P9: no node", s.Crash(1), api.ErrNode)
}

// TestSentListsAreFresh: what the caller does with a list that was sent is nothing to what lives, what is stored or what else comes out.
func TestSentListsAreFresh(t *testing.T) {
	for _, high := range []int{2, 3, 19} {
		s := stirred(t)
		before := told(s)
		kept, living := send(t, s, 4, 0, high), s.Items(4)
		texts := []string{fmt.Sprint(kept[:cap(kept)]), fmt.Sprint(living[:cap(living)])}
		spoilt := send(t, s, 4, 0, high)
		spoil(spoilt)
		if told(s) != before {
			t.Error("P2: a list that was sent and written into changed the store")
		}
		spoil(s.Items(4))
		if told(s) != before {
			t.Error("P2: a list of what lives that was written into changed the store")
		}
		crashNode(t, s, 4)
		wantItems(t, s, 4, stirredStored(4)...)
		spoil(send(t, s, 4, 0, high))
		spoil(s.Items(4))
		wantItems(t, s, 4, stirredStored(4)...)
		wantSent(t, s, 4, 0, 19, stirredStored(4)...)
		ingest(t, s, 4, 49, "a", 3)
		advance(t, s, 4, 200)
		syncNode(t, s, 4)
		spoil(send(t, s, 4, 0, 19))
		crashNode(t, s, 4)
		if fmt.Sprint(kept[:cap(kept)]) != texts[0] || fmt.Sprint(living[:cap(living)]) != texts[1] {
			t.Error("P2: later calls changed a list that came out")
		}
		for _, it := range spoilt[:cap(spoilt)] {
			if it.Version != 77 {
				t.Errorf("P2: a list that came out was written into: %+v", it)
			}
		}
	}
}

// TestSentListsShareNoRoom: however many items are stored, and however few of them are sent, no two lists share room, nor does one with the store.
func TestSentListsShareNoRoom(t *testing.T) {
	for stored := 1; stored < api.MaxWindows; stored++ {
		s := newStore(t, 1, -1, 0)
		for w := range stored {
			ingest(t, s, 1, w, "a", int32(w))
		}
		syncNode(t, s, 1)
		for high := range stored {
			kept := send(t, s, 1, 0, high)
			text := fmt.Sprint(kept)
			spoilt := send(t, s, 1, 0, high)
			spoil(spoilt)
			ingest(t, s, 1, stored, "a", 1)
			wantSent(t, s, 1, 0, high, kept...)
			if fmt.Sprint(kept) != text || spoilt[0].Version != 77 {
				t.Errorf("P2: lists of %d items of %d share their room", high+1, stored)
			}
			crashNode(t, s, 1)
			wantItems(t, s, 1, send(t, s, 1, 0, 19)...)
		}
	}
}
