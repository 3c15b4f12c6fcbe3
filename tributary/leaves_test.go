// Tests of P6 to P8, P12 and P13, and of P1 and P2 for the calls that these name.
package tributary_test

import (
	"fmt"
	"math"
	"strings"
	"testing"

	"tributary/api"
	"tributary/tributary"
)

var (
	longest = strings.Repeat("k", api.MaxKey)
	tooLong = strings.Repeat("k", api.MaxKey+1)
)

// someNodes are nodes that there are, or are not.
var someNodes = []int{math.MinInt, -2, -1, 0, 1, 2, 3, 4, 5, 6, 7, 8, 9, math.MaxInt}

func newStore(t *testing.T, width int, tree ...int) *tributary.Store {
	t.Helper()
	s, e := tributary.New(tree, width)
	if s == nil || e != api.OK {
		t.Fatalf("P6: New(%v, %d) = %p, %d", tree, width, s, e)
	}
	return s
}

func wantErrno(t *testing.T, what string, got api.Errno, want api.Errno) {
	t.Helper()
	if got != want {
		t.Errorf("%s: %d, want %d", what, got, want)
	}
}

func ingest(t *testing.T, s *tributary.Store, leaf int, at int, key string, v int32) {
	t.Helper()
	wantErrno(t, fmt.Sprintf("P7: Ingest(%d, %d, %q, %d)", leaf, at, key, v), s.Ingest(leaf, at, key, v), api.OK)
}

func advance(t *testing.T, s *tributary.Store, leaf int, to int) {
	t.Helper()
	wantErrno(t, fmt.Sprintf("P8: Advance(%d, %d)", leaf, to), s.Advance(leaf, to), api.OK)
	if got := s.Watermark(leaf); got != to {
		t.Errorf("P8: Watermark(%d), advanced to %d, is %d", leaf, to, got)
	}
}

// itemOf is the item of some events, all of the key a.
func itemOf(leaf int, window int, final bool, values ...int32) api.Item {
	return api.Item{Leaf: leaf, Window: window, Version: len(values), Final: final, Sketch: sketchOf(values...)}
}

func sketchOf(values ...int32) api.Sketch {
	s := empty
	for _, v := range values {
		s = wantMerge(s, wantOne("a", v))
	}
	return s
}

func wantItems(t *testing.T, s *tributary.Store, node int, want ...api.Item) {
	t.Helper()
	got := s.Items(node)
	if fmt.Sprintf("%+v", got) != fmt.Sprintf("%+v", want) {
		t.Errorf("P13: Items(%d) = %+v, want %+v", node, got, want)
	}
}

func wantAnswer(t *testing.T, s *tributary.Store, node int, low int, high int, want api.Answer) {
	t.Helper()
	got, e := s.Ask(node, low, high)
	if got != want || e != api.OK {
		t.Errorf("P12: Ask(%d, %d, %d) = %+v, %d, want %+v", node, low, high, got, e, want)
	}
}

// told is all that a store tells of itself.
func told(s *tributary.Store) string {
	var b strings.Builder
	for _, node := range someNodes {
		fmt.Fprintf(&b, "%d: %+v %d\n", node, s.Items(node), s.Watermark(node))
		for w := -1; w <= api.MaxWindows; w++ {
			one, e := s.Ask(node, w, w)
			rest, f := s.Ask(node, w, api.MaxWindows-1)
			fmt.Fprintln(&b, one, e, rest, f)
		}
		sent, e := s.Send(node, 0, api.MaxWindows-1)
		fmt.Fprintf(&b, "%+v %d\n", sent, e)
	}
	return b.String()
}

func TestNewOfTrees(t *testing.T) {
	cases := []struct {
		tree []int
		want api.Errno
	}{
		{nil, api.ErrTree},
		{[]int{}, api.ErrTree},
		{[]int{0}, api.ErrTree},
		{[]int{-2}, api.ErrTree},
		{[]int{math.MinInt}, api.ErrTree},
		{[]int{math.MaxInt}, api.ErrTree},
		{[]int{-1, -1}, api.ErrTree},
		{[]int{-1, 1}, api.ErrTree},
		{[]int{-1, 2, 0}, api.ErrTree},
		{[]int{-1, 0, 5}, api.ErrTree},
		{[]int{-1, 0, 2}, api.ErrTree},
		{[]int{-1, math.MinInt}, api.ErrTree},
		{[]int{-1, math.MaxInt}, api.ErrTree},
		{[]int{0, 0, 0}, api.ErrTree},
		{[]int{-1, 0, 0, 0, 0, 0, 0, 7}, api.ErrTree},
		{[]int{-1, 0, 1, 2, 3, 4, 5, 6, 7}, api.ErrTree},
		{append([]int{-1}, make([]int, 8)...), api.ErrTree},
		{append([]int{-1}, make([]int, 100000)...), api.ErrTree},
		{[]int{-1}, api.OK},
		{[]int{-1, 0}, api.OK},
		{[]int{-1, 0, 0, 1, 1}, api.OK},
		{[]int{-1, 0, 1, 2, 3, 4, 5, 6}, api.OK},
		{[]int{-1, 0, 0, 0, 0, 0, 0, 0}, api.OK},
	}
	for _, c := range cases {
		for _, width := range []int{math.MinInt, -1, 0, 1, 2, 999, 1000, 1001, math.MaxInt} {
			want := c.want
			if want == api.OK && (width < 1 || width > 1000) {
				want = api.ErrArg
			}
			s, e := tributary.New(c.tree, width)
			if e != want || (s == nil) != (e != api.OK) {
				t.Errorf("P6: New(%.40v, %d) = %p, %d, want %d", c.tree, width, s, e, want)
			}
		}
	}
}

func TestNewStoreHasNothing(t *testing.T) {
	s := newStore(t, 10, -1, 0, 0, 1, 1)
	for _, node := range someNodes {
		if items := s.Items(node); len(items) != 0 {
			t.Errorf("P6: Items(%d) = %+v", node, items)
		}
		want := -1
		if node == 2 || node == 3 || node == 4 {
			want = 0
		}
		if got := s.Watermark(node); got != want {
			t.Errorf("P6: Watermark(%d) = %d, want %d", node, got, want)
		}
	}
	for node := range 5 {
		wantAnswer(t, s, node, 0, 19, api.Answer{Sketch: empty})
	}
	if s.Items(-1) != nil || s.Items(5) != nil {
		t.Error("P13: Items of no node is not nil")
	}
}

// TestTreeIsNotKept: the list of parents, and its spare room, are the caller's.
func TestTreeIsNotKept(t *testing.T) {
	room := []int{-1, 0, 0, 77, 78}
	s := newStore(t, 10, room[:3]...)
	if fmt.Sprint(room) != "[-1 0 0 77 78]" {
		t.Fatalf("P2: New wrote into its tree: %v", room)
	}
	before := told(s)
	for i := range room {
		room[i] = 1
	}
	if told(s) != before {
		t.Error("P2: a store hangs on the list that it was made of")
	}
	wantErrno(t, "P7: at the root", s.Ingest(0, 0, "a", 1), api.ErrLeaf)
	ingest(t, s, 1, 0, "a", 1)
	ingest(t, s, 2, 0, "a", 1)
}

// TestCallsOnNoStore: beside an error New gives nil, which is a store without nodes.
func TestCallsOnNoStore(t *testing.T) {
	s, _ := tributary.New(nil, 10)
	wantErrno(t, "P1: Ingest", s.Ingest(0, 0, "a", 1), api.ErrNode)
	wantErrno(t, "P1: Advance", s.Advance(0, 0), api.ErrNode)
	wantErrno(t, "P1: Sync", s.Sync(0), api.ErrNode)
	wantErrno(t, "P1: Crash", s.Crash(0), api.ErrNode)
	wantNotSent(t, s, 0, 0, 0, api.ErrNode)
	wantErrno(t, "P1: Deliver", s.Deliver(0, packet(1, itemOf(1, 0, true))), api.ErrNode)
	a, e := s.Ask(0, 0, 0)
	if a != (api.Answer{}) || e != api.ErrNode || s.Items(0) != nil || s.Watermark(0) != -1 {
		t.Errorf("P1: Ask = %+v, %d; Items = %v; Watermark = %d", a, e, s.Items(0), s.Watermark(0))
	}
}

func TestIngestErrors(t *testing.T) {
	s := newStore(t, 10, -1, 0, 0, 1, 1)
	ingest(t, s, 2, 15, "a", 4)
	advance(t, s, 2, 20)
	cases := []struct {
		leaf, at int
		key      string
		want     api.Errno
	}{
		{-1, 0, "", api.ErrNode},
		{5, 0, "", api.ErrNode},
		{8, 0, "", api.ErrNode},
		{math.MinInt, 0, "", api.ErrNode},
		{math.MaxInt, 0, "", api.ErrNode},
		{-1, -1, tooLong, api.ErrNode},
		{5, 200, tooLong, api.ErrNode},
		{0, 0, "", api.ErrLeaf},
		{1, 0, "", api.ErrLeaf},
		{0, -1, tooLong, api.ErrLeaf},
		{1, 200, tooLong, api.ErrLeaf},
		{2, -1, "", api.ErrTime},
		{2, 200, "", api.ErrTime},
		{2, math.MinInt, "", api.ErrTime},
		{2, math.MaxInt, "", api.ErrTime},
		{2, -1, tooLong, api.ErrTime},
		{2, 200, tooLong, api.ErrTime},
		{2, 100, tooLong, api.ErrKey},
		{2, 100, strings.Repeat("k", 100000), api.ErrKey},
		{2, 100, strings.Repeat("é", 11), api.ErrKey},
		{2, 15, tooLong, api.ErrKey},
		{2, 0, "", api.ErrLate},
		{2, 9, "a", api.ErrLate},
		{2, 10, longest, api.ErrLate},
		{2, 19, "a", api.ErrLate},
	}
	before := told(s)
	for _, c := range cases {
		what := fmt.Sprintf("P7: Ingest(%d, %d, %.30q)", c.leaf, c.at, c.key)
		wantErrno(t, what, s.Ingest(c.leaf, c.at, c.key, 1), c.want)
		if told(s) != before {
			t.Fatalf("P1: %s was refused, and changed something", what)
		}
	}
}

// TestIngestTimes: the first and the last time of each window join its item, and no other.
func TestIngestTimes(t *testing.T) {
	for _, width := range []int{1, 2, 7, 10, 999, 1000} {
		s := newStore(t, width, -1, 0)
		var want []api.Item
		for w := range api.MaxWindows {
			ingest(t, s, 1, w*width, "a", int32(w))
			ingest(t, s, 1, w*width+width-1, "a", -1000)
			want = append(want, itemOf(1, w, false, int32(w), -1000))
		}
		wantItems(t, s, 1, want...)
		wantErrno(t, "P7: the End", s.Ingest(1, 20*width, "a", 1), api.ErrTime)
		wantErrno(t, "P7: ahead of 0", s.Ingest(1, -1, "a", 1), api.ErrTime)
		wantItems(t, s, 1, want...)
	}
}

func TestIngestJoinsItems(t *testing.T) {
	s := newStore(t, 10, -1, 0, 0, 1, 1)
	ingest(t, s, 2, 5, "a", 100)
	wantItems(t, s, 2, itemOf(2, 0, false, 100))
	ingest(t, s, 2, 199, "a", 3)
	ingest(t, s, 2, 9, "a", -7)
	ingest(t, s, 2, 30, "a", 8)
	ingest(t, s, 2, 0, "a", least)
	ingest(t, s, 2, 190, "a", greatest)
	wantItems(t, s, 2, itemOf(2, 0, false, 100, -7, least), itemOf(2, 3, false, 8), itemOf(2, 19, false, 3, greatest))
	for _, node := range []int{0, 1, 3, 4} {
		wantItems(t, s, node)
	}
	ingest(t, s, 4, 30, "a", 1)
	wantItems(t, s, 4, itemOf(4, 3, false, 1))
	wantItems(t, s, 3)
	if got := s.Watermark(2); got != 0 {
		t.Errorf("P7: Ingest moved the watermark to %d", got)
	}
}

// TestIngestKeys: keys are bytes, of any kind, from none to MaxKey.
func TestIngestKeys(t *testing.T) {
	s := newStore(t, 1000, -1)
	want := empty
	keys := []string{"", "\x00", "a", "\xff\xfe", "é", "cmugue", longest, strings.Repeat("é", 10), strings.Repeat("\xff", 20)}
	for i, key := range keys {
		ingest(t, s, 0, 4999, key, int32(i))
		want = wantMerge(want, wantOne(key, int32(i)))
		wantItems(t, s, 0, api.Item{Leaf: 0, Window: 4, Version: i + 1, Sketch: want})
	}
}

// TestVersionGoesOn: Count stops at 65535, Version does not.
func TestVersionGoesOn(t *testing.T) {
	s := newStore(t, 1, -1, 0)
	const events = 65540
	for range events {
		if e := s.Ingest(1, 7, "a", 1); e != api.OK {
			t.Fatalf("P7: Ingest: %d", e)
		}
	}
	want := api.Sketch{Count: 65535, Sum: events, Least: 1, Greatest: 1}
	want.Regs[12] = 1
	want.Hist[0] = 255
	wantItems(t, s, 1, api.Item{Leaf: 1, Window: 7, Version: events, Sketch: want})
}

func TestAdvanceClosesWindows(t *testing.T) {
	s := newStore(t, 10, -1, 0, 0)
	ingest(t, s, 1, 25, "a", 4)
	advance(t, s, 1, 0)
	advance(t, s, 1, 9)
	wantItems(t, s, 1, itemOf(1, 2, false, 4))
	advance(t, s, 1, 10)
	wantItems(t, s, 1, itemOf(1, 0, true), itemOf(1, 2, false, 4))
	wantErrno(t, "P7: window 0", s.Ingest(1, 9, "a", 1), api.ErrLate)
	ingest(t, s, 1, 10, "a", 6)
	advance(t, s, 1, 29)
	wantItems(t, s, 1, itemOf(1, 0, true), itemOf(1, 1, true, 6), itemOf(1, 2, false, 4))
	ingest(t, s, 1, 20, "a", 5) // behind the watermark, but in a window that is not Final
	advance(t, s, 1, 30)
	advance(t, s, 1, 30)
	want := []api.Item{itemOf(1, 0, true), itemOf(1, 1, true, 6), itemOf(1, 2, true, 4, 5)}
	wantItems(t, s, 1, want...)
	wantErrno(t, "P7: window 2", s.Ingest(1, 29, "a", 1), api.ErrLate)
	wantItems(t, s, 2)
	wantItems(t, s, 0)
	if got := s.Watermark(2); got != 0 {
		t.Errorf("P8: Advance of one leaf moved another's watermark to %d", got)
	}
	ingest(t, s, 2, 29, "a", 1)
	advance(t, s, 1, 199)
	for w := 3; w < 19; w++ {
		want = append(want, itemOf(1, w, true))
	}
	wantItems(t, s, 1, want...)
	advance(t, s, 1, 200)
	wantItems(t, s, 1, append(want, itemOf(1, 19, true))...)
	wantErrno(t, "P7: the last window", s.Ingest(1, 199, "a", 1), api.ErrLate)
}

// TestAdvanceToEachTime: the windows that are Final are those that end at the watermark or ahead of it.
func TestAdvanceToEachTime(t *testing.T) {
	for _, width := range []int{1, 2, 7, 1000} {
		for to := 0; to <= 20*width; to++ {
			if width == 1000 && (to+1)%1000 > 2 {
				continue
			}
			s := newStore(t, width, -1)
			advance(t, s, 0, to)
			var want []api.Item
			for w := range to / width {
				want = append(want, itemOf(0, w, true))
			}
			wantItems(t, s, 0, want...)
		}
	}
}

func TestAdvanceErrors(t *testing.T) {
	s := newStore(t, 10, -1, 0, 0, 1, 1)
	ingest(t, s, 2, 35, "a", 4)
	advance(t, s, 2, 30)
	cases := []struct {
		leaf, to int
		want     api.Errno
	}{
		{-1, 40, api.ErrNode},
		{5, 40, api.ErrNode},
		{8, 40, api.ErrNode},
		{math.MinInt, 40, api.ErrNode},
		{math.MaxInt, 40, api.ErrNode},
		{-1, -1, api.ErrNode},
		{5, 201, api.ErrNode},
		{0, 40, api.ErrLeaf},
		{1, 40, api.ErrLeaf},
		{0, -1, api.ErrLeaf},
		{1, 201, api.ErrLeaf},
		{2, 29, api.ErrTime},
		{2, 0, api.ErrTime},
		{2, -1, api.ErrTime},
		{2, 201, api.ErrTime},
		{2, math.MinInt, api.ErrTime},
		{2, math.MaxInt, api.ErrTime},
		{3, -1, api.ErrTime},
		{3, 201, api.ErrTime},
	}
	before := told(s)
	for _, c := range cases {
		what := fmt.Sprintf("P8: Advance(%d, %d)", c.leaf, c.to)
		wantErrno(t, what, s.Advance(c.leaf, c.to), c.want)
		if told(s) != before {
			t.Fatalf("P1: %s was refused, and changed something", what)
		}
	}
	advance(t, s, 2, 200)
	wantErrno(t, "P8: one below the End, behind it", s.Advance(2, 199), api.ErrTime)
	advance(t, s, 2, 200)
}

func TestAskErrors(t *testing.T) {
	s := newStore(t, 10, -1, 0, 0)
	advance(t, s, 1, 200)
	cases := []struct {
		node, low, high int
		want            api.Errno
	}{
		{-1, 0, 0, api.ErrNode},
		{3, 0, 0, api.ErrNode},
		{8, 0, 0, api.ErrNode},
		{math.MinInt, 0, 0, api.ErrNode},
		{math.MaxInt, 0, 0, api.ErrNode},
		{-1, 3, 2, api.ErrNode},
		{3, -1, 20, api.ErrNode},
		{1, -1, 0, api.ErrArg},
		{1, -1, -1, api.ErrArg},
		{1, 0, 20, api.ErrArg},
		{1, 19, 20, api.ErrArg},
		{1, 20, 20, api.ErrArg},
		{1, 20, 19, api.ErrArg},
		{1, 3, 2, api.ErrArg},
		{1, 0, -1, api.ErrArg},
		{0, 19, 0, api.ErrArg},
		{0, math.MinInt, math.MaxInt, api.ErrArg},
		{0, math.MaxInt, math.MinInt, api.ErrArg},
		{0, 0, math.MaxInt, api.ErrArg},
		{0, math.MinInt, 19, api.ErrArg},
	}
	before := told(s)
	for _, c := range cases {
		a, e := s.Ask(c.node, c.low, c.high)
		if a != (api.Answer{}) || e != c.want {
			t.Errorf("P12: Ask(%d, %d, %d) = %+v, %d, want noughts, %d", c.node, c.low, c.high, a, e, c.want)
		}
	}
	if told(s) != before {
		t.Error("P1: Ask changed something")
	}
}

func TestAskALeaf(t *testing.T) {
	s := newStore(t, 10, -1, 0, 0)
	ingest(t, s, 1, 0, "a", 100)
	ingest(t, s, 1, 1, "a", -7)
	ingest(t, s, 1, 45, "a", 8)
	ingest(t, s, 1, 199, "a", 3)
	ingest(t, s, 2, 45, "a", 1)
	cases := []struct {
		low, high int
		values    []int32
	}{
		{0, 0, []int32{100, -7}},
		{0, 19, []int32{100, -7, 8, 3}},
		{0, 4, []int32{100, -7, 8}},
		{1, 3, nil},
		{1, 4, []int32{8}},
		{4, 4, []int32{8}},
		{5, 18, nil},
		{5, 19, []int32{3}},
		{19, 19, []int32{3}},
	}
	for _, to := range []int{0, 9, 10, 49, 50, 200} {
		advance(t, s, 1, to)
		for _, c := range cases {
			want := api.Answer{Sketch: sketchOf(c.values...)}
			for w := c.low; w <= c.high; w++ {
				if w < to/10 {
					want.Closed++
				}
			}
			want.Sealed = c.high < to/10
			wantAnswer(t, s, 1, c.low, c.high, want)
		}
	}
	wantAnswer(t, s, 2, 0, 19, api.Answer{Sketch: sketchOf(1)})
}

// TestAskAboveLeaves: what leaves have is nothing to the nodes above them, until it comes there.
func TestAskAboveLeaves(t *testing.T) {
	s := newStore(t, 10, -1, 0, 0, 1, 1)
	for _, leaf := range []int{2, 3, 4} {
		ingest(t, s, leaf, 5, "a", 100)
		advance(t, s, leaf, 200)
		answer := api.Answer{Sketch: sketchOf(100), Sealed: true, Closed: 20}
		wantAnswer(t, s, leaf, 0, 19, answer)
	}
	for _, node := range []int{0, 1} {
		wantItems(t, s, node)
		wantAnswer(t, s, node, 0, 0, api.Answer{Sketch: empty})
		wantAnswer(t, s, node, 0, 19, api.Answer{Sketch: empty})
	}
}

// TestRootAlone: the root is a leaf, if it is the only node.
func TestRootAlone(t *testing.T) {
	s := newStore(t, 1, -1)
	ingest(t, s, 0, 19, "a", 9)
	advance(t, s, 0, 1)
	wantItems(t, s, 0, itemOf(0, 0, true), itemOf(0, 19, false, 9))
	wantAnswer(t, s, 0, 0, 0, api.Answer{Sketch: empty, Sealed: true, Closed: 1})
	wantAnswer(t, s, 0, 0, 19, api.Answer{Sketch: sketchOf(9), Closed: 1})
}

// TestItemsAreFresh: what the caller does with a list, and with its spare room, is nothing to the store or to another list.
func TestItemsAreFresh(t *testing.T) {
	s := newStore(t, 10, -1, 0)
	for at := 0; at < 200; at += 30 {
		ingest(t, s, 1, at, "a", int32(at))
	}
	before := told(s)
	kept, spoilt := s.Items(1), s.Items(1)
	keptText := fmt.Sprintf("%+v", kept[:cap(kept)])
	spoilt = spoilt[:cap(spoilt)]
	for i := range spoilt {
		spoilt[i] = api.Item{Leaf: 9, Window: -5, Version: 77, Final: true}
	}
	if told(s) != before {
		t.Error("P2: a list that was written into changed the store")
	}
	ingest(t, s, 1, 10, "a", 1)
	advance(t, s, 1, 200)
	if got := fmt.Sprintf("%+v", kept[:cap(kept)]); got != keptText {
		t.Errorf("P2: a list that came out was changed to %s, from %s", got, keptText)
	}
	for _, it := range spoilt {
		if it.Version != 77 {
			t.Errorf("P2: a list that came out was written into: %+v", it)
		}
	}
}

func TestStoresAreApart(t *testing.T) {
	tree := []int{-1, 0, 0}
	a, b := newStore(t, 10, tree...), newStore(t, 10, tree...)
	fresh := told(b)
	ingest(t, a, 1, 5, "a", 1)
	advance(t, a, 1, 50)
	syncNode(t, a, 1)
	if told(b) != fresh {
		t.Error("P2: one store changed another")
	}
	ingest(t, b, 1, 5, "a", 2)
	crashNode(t, a, 1)
	wantItems(t, b, 1, itemOf(1, 0, false, 2))
	crashNode(t, b, 1)
	if told(b) != fresh {
		t.Error("P2: one store stored something in another")
	}
}
