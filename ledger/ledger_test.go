package ledger_test

import (
	"fmt"
	"testing"

	"tributary/api"
	"tributary/ledger"
	"tributary/sketch"
)

// TestOrder lays items of several leaves and windows in every order of steps through them.
func TestOrder(t *testing.T) {
	const leaves, windows = 5, 5
	const all = leaves * windows
	for step := 1; step < all; step++ {
		if step%5 == 0 {
			continue
		}
		var l ledger.Ledger
		for i := range all {
			at := i * step % all
			l.Add(at/windows, at%windows, "a", int32(at))
		}
		items := l.Items(0, windows-1)
		if len(items) != all {
			t.Fatalf("step %d: %d items, want %d", step, len(items), all)
		}
		for i, it := range items {
			want := api.Item{Leaf: i / windows, Window: i % windows, Version: 1, Sketch: sketch.Add(sketch.Empty(), "a", int32(i))}
			if it != want {
				t.Errorf("P13: step %d, item %d = %+v, want %+v", step, i, it, want)
			}
		}
	}
}

// TestTakeInAnyOrder: items that are told find their places among those that are there, and the newer of two stays.
func TestTakeInAnyOrder(t *testing.T) {
	const leaves, windows = 3, 7
	const all = leaves * windows
	for _, step := range []int{1, 2, 4, 5, 8, 10, 20} {
		var l ledger.Ledger
		for i := range all * 3 {
			at := i * step % all
			// Of three rounds the second is the newest, and the third one older than the first.
			version := []int{1, 2, 0}[i/all]
			l.Take(api.Item{Leaf: at / windows, Window: at % windows, Version: version})
			l.Take(api.Item{Leaf: at / windows, Window: at % windows, Version: version, Final: at%2 == 0})
		}
		items := l.Items(0, windows-1)
		if len(items) != all {
			t.Fatalf("step %d: %d items, want %d", step, len(items), all)
		}
		for i, it := range items {
			want := api.Item{Leaf: i / windows, Window: i % windows, Version: 2, Final: i%2 == 0}
			if it != want {
				t.Errorf("P11: step %d, item %d = %+v, want %+v", step, i, it, want)
			}
		}
	}
}

// TestTakeLeavesTheWatermark: what is told of others is nothing to it.
func TestTakeLeavesTheWatermark(t *testing.T) {
	var l ledger.Ledger
	l.SetWatermark(30)
	l.Take(api.Item{Leaf: 1, Window: 9, Version: 1, Final: true})
	if l.Watermark() != 30 {
		t.Errorf("the watermark is %d, want 30", l.Watermark())
	}
}

// TestIsAhead: by leaf and, in one leaf, by window; an item is not ahead of its own place.
func TestIsAhead(t *testing.T) {
	for a := range 25 {
		for b := range 25 {
			it := api.Item{Leaf: a / 5, Window: a % 5}
			if ledger.IsAhead(it, b/5, b%5) != (a < b) {
				t.Errorf("IsAhead(%d/%d, %d, %d) is not %t", it.Leaf, it.Window, b/5, b%5, a < b)
			}
		}
	}
}

func TestItemsOfSomeWindows(t *testing.T) {
	var l ledger.Ledger
	for _, x := range [][2]int{{3, 19}, {1, 0}, {3, 7}, {2, 8}, {1, 7}} {
		l.Close(x[0], x[1])
	}
	for _, c := range []struct {
		low, high int
		want      [][2]int
	}{
		{0, 19, [][2]int{{1, 0}, {1, 7}, {2, 8}, {3, 7}, {3, 19}}},
		{7, 7, [][2]int{{1, 7}, {3, 7}}},
		{7, 8, [][2]int{{1, 7}, {2, 8}, {3, 7}}},
		{8, 18, [][2]int{{2, 8}}},
		{1, 6, nil},
		{0, 0, [][2]int{{1, 0}}},
		{19, 19, [][2]int{{3, 19}}},
	} {
		items := l.Items(c.low, c.high)
		if len(items) != len(c.want) {
			t.Errorf("Items(%d, %d): %d, want %d", c.low, c.high, len(items), len(c.want))
			continue
		}
		for i, it := range items {
			want := api.Item{Leaf: c.want[i][0], Window: c.want[i][1], Final: true, Sketch: sketch.Empty()}
			if it != want {
				t.Errorf("Items(%d, %d): item %d = %+v, want %+v", c.low, c.high, i, it, want)
			}
		}
	}
}

// TestFinalOfEachLeaf: what is Final of one leaf and window is nothing to the same window of another leaf.
func TestFinalOfEachLeaf(t *testing.T) {
	var l ledger.Ledger
	l.Add(1, 4, "a", 1)
	l.Close(2, 4)
	l.Close(1, 5)
	for leaf := range 4 {
		for window := range 8 {
			want := leaf == 2 && window == 4 || leaf == 1 && window == 5
			if l.IsFinal(leaf, window) != want {
				t.Errorf("IsFinal(%d, %d) is not %t", leaf, window, want)
			}
		}
	}
	if n := len(l.Items(0, 19)); n != 3 {
		t.Errorf("%d items, want 3: asking made some", n)
	}
}

// TestCopyIsApart: what is laid into a ledger, at any place, is nothing to one that was copied from it, or that it was copied from.
func TestCopyIsApart(t *testing.T) {
	for _, leaf := range []int{0, 1, 2, 3, 4} {
		var first ledger.Ledger
		first.Add(1, 0, "a", 1)
		first.Add(3, 19, "a", 2)
		first.Close(1, 7) // the room that append made has some to spare now
		first.SetWatermark(50)
		want := fmt.Sprintf("%+v", first)
		second := first.Copy()
		if got := fmt.Sprintf("%+v", second); got != want {
			t.Errorf("a copy is %s, want %s", got, want)
		}
		change(&second, leaf)
		if got := fmt.Sprintf("%+v", first); got != want {
			t.Errorf("a copy that was changed at leaf %d changed what it was copied from to %s, from %s", leaf, got, want)
		}
		third := first.Copy()
		change(&first, leaf)
		if got := fmt.Sprintf("%+v", third); got != want {
			t.Errorf("what was changed at leaf %d changed its copy to %s, from %s", leaf, got, want)
		}
	}
}

func change(l *ledger.Ledger, leaf int) {
	l.Add(leaf, 5, "b", 100)
	l.Take(api.Item{Leaf: leaf, Window: 6, Version: 9})
	l.Take(api.Item{Leaf: leaf, Window: 5, Version: 9})
	l.Close(leaf, 0)
	l.Close(leaf, 19)
	l.SetWatermark(l.Watermark() + 1)
}
