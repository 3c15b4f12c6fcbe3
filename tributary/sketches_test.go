// Tests of P3 to P5, and of P1 and P2 for the calls that these name. What is wanted is worked out
// by other means than the program's: hash/fnv, math/bits and math/big.
package tributary_test

import (
	"hash/fnv"
	"math"
	"math/big"
	"math/bits"
	"strings"
	"testing"

	"tributary/api"
	"tributary/tributary"
)

const (
	least    int32 = -2147483648
	greatest int32 = 2147483647
)

var empty = api.Sketch{Least: greatest, Greatest: least}

// numbers is a row of numbers that look like any, and are the same in each run.
type numbers struct{ state uint64 }

func (n *numbers) next() uint64 {
	n.state = n.state*6364136223846793005 + 1442695040888963407
	return n.state >> 20
}

// pick is a number that lies at an edge about every other time.
func (n *numbers) pick(edges []int64) int64 {
	x := n.next()
	if x%2 == 0 {
		return edges[x/2%uint64(len(edges))]
	}
	return int64(x / 2)
}

func (n *numbers) value() int32 {
	return int32(n.pick([]int64{0, 1, -1, 7, 8, 127, 128, int64(least), int64(greatest)}))
}

func (n *numbers) key() string {
	key := make([]byte, n.next()%30)
	for i := range key {
		key[i] = byte(n.next())
	}
	return string(key)
}

// sketch has any numbers in its fields, such as no events make.
func (n *numbers) sketch() api.Sketch {
	s := api.Sketch{
		Count:    uint16(n.pick([]int64{0, 1, 65534, 65535})),
		Sum:      uint32(n.pick([]int64{0, 1, 4294967295})),
		Least:    n.value(),
		Greatest: n.value(),
	}
	for i := range s.Regs {
		s.Regs[i] = uint8(n.pick([]int64{0, 1, 28, 29, 31, 32, 33, 255}))
	}
	for i := range s.Hist {
		s.Hist[i] = uint8(n.pick([]int64{0, 0, 1, 127, 128, 254, 255}))
	}
	return s
}

func wantHash(key string) uint32 {
	h := fnv.New32a()
	h.Write([]byte(key))
	return h.Sum32()
}

func wantOne(key string, v int32) api.Sketch {
	s := api.Sketch{Count: 1, Sum: uint32(int64(v) & 0xffffffff), Least: v, Greatest: v}
	h := wantHash(key)
	s.Regs[h&15] = uint8(bits.LeadingZeros32(h|15) + 1)
	s.Hist[bits.Len32(uint32(max(v, 0)))/4] = 1
	return s
}

func wantMerge(a api.Sketch, b api.Sketch) api.Sketch {
	s := api.Sketch{
		Count:    uint16(min(uint64(a.Count)+uint64(b.Count), 65535)),
		Sum:      uint32((uint64(a.Sum) + uint64(b.Sum)) % (1 << 32)),
		Least:    min(a.Least, b.Least),
		Greatest: max(a.Greatest, b.Greatest),
	}
	for i := range s.Regs {
		s.Regs[i] = max(a.Regs[i], b.Regs[i])
	}
	for i := range s.Hist {
		s.Hist[i] = uint8(min(uint64(a.Hist[i])+uint64(b.Hist[i]), 255))
	}
	return s
}

func wantDistinct(s api.Sketch) uint64 {
	sum := new(big.Int)
	for _, r := range s.Regs {
		sum.Add(sum, new(big.Int).Lsh(big.NewInt(1), uint(32-min(r, 32))))
	}
	return new(big.Int).Div(big.NewInt(738734374912), sum).Uint64()
}

// wantRank compares fractions, one for each bucket, and needs none where there is nothing at all.
func wantRank(s api.Sketch, part int) int {
	all := int64(0)
	for _, n := range s.Hist {
		all += int64(n)
	}
	if all == 0 {
		return 0
	}
	need := big.NewRat(int64(min(max(part, 0), 1000)), 1000)
	for b := range s.Hist {
		together := int64(0)
		for _, n := range s.Hist[:b+1] {
			together += int64(n)
		}
		if big.NewRat(together, all).Cmp(need) >= 0 {
			return b
		}
	}
	return -1
}

func TestHashOfKeys(t *testing.T) {
	cases := []struct {
		key  string
		want uint32
	}{
		{"", 2166136261},
		{"a", 3826002220},
		{"foobar", 3214735720},
		{"\x00", 84696351},
		{"\x7f", wantHash("\x7f")},
		{"\x80", wantHash("\x80")},
		{"\xff", 2047574606},
		{"é", wantHash("\xc3\xa9")},
		{"\xff\xfe\x80", wantHash("\xff\xfe\x80")},
		{"ab", wantHash("ab")},
		{"ba", wantHash("ba")},
		{strings.Repeat("k", api.MaxKey), wantHash(strings.Repeat("k", api.MaxKey))},
		{strings.Repeat("\xf0", 100000), wantHash(strings.Repeat("\xf0", 100000))},
	}
	for _, c := range cases {
		if got := tributary.Hash(c.key); got != c.want {
			t.Errorf("P3: Hash(%.40q) = %d, want %d", c.key, got, c.want)
		}
	}
}

func TestHashOfAnyKeys(t *testing.T) {
	n := numbers{1}
	for range 20000 {
		key := n.key()
		if got, want := tributary.Hash(key), wantHash(key); got != want {
			t.Fatalf("P3: Hash(%q) = %d, want %d", key, got, want)
		}
	}
}

func TestEmptySketch(t *testing.T) {
	s := tributary.Empty()
	if s != empty {
		t.Fatalf("P3: Empty() = %+v, want %+v", s, empty)
	}
	s.Regs[3] = 9
	s.Hist[3] = 9
	if again := tributary.Empty(); again != empty {
		t.Errorf("P2: Empty(), after another was written into, = %+v", again)
	}
}

func TestValuesOfOneEvent(t *testing.T) {
	cases := []struct {
		v      int32
		sum    uint32
		bucket int
	}{
		{least, 2147483648, 0},
		{least + 1, 2147483649, 0},
		{-8, 4294967288, 0},
		{-1, 4294967295, 0},
		{0, 0, 0},
		{1, 1, 0},
		{7, 7, 0},
		{8, 8, 1},
		{100, 100, 1},
		{127, 127, 1},
		{128, 128, 2},
		{2047, 2047, 2},
		{2048, 2048, 3},
		{32767, 32767, 3},
		{32768, 32768, 4},
		{524287, 524287, 4},
		{524288, 524288, 5},
		{8388607, 8388607, 5},
		{8388608, 8388608, 6},
		{134217727, 134217727, 6},
		{134217728, 134217728, 7},
		{greatest - 1, 2147483646, 7},
		{greatest, 2147483647, 7},
	}
	for _, c := range cases {
		want := api.Sketch{Count: 1, Sum: c.sum, Least: c.v, Greatest: c.v}
		want.Regs[12] = 1
		want.Hist[c.bucket] = 1
		if got := tributary.Add(empty, "a", c.v); got != want {
			t.Errorf("P3: the sketch of a, %d = %+v, want %+v", c.v, got, want)
		}
	}
}

// TestRegistersOfOneEvent: the rarest keys are those whose hash has no one, or a single one, above the lowest four bits.
func TestRegistersOfOneEvent(t *testing.T) {
	cases := []struct {
		key      string
		hash     uint32
		register int
		want     uint8
	}{
		{"", 0x811c9dc5, 5, 1},
		{"a", 0xe40c292c, 12, 1},
		{"foobar", 0xbf9cf968, 8, 1},
		{"\x00", 0x050c5d1f, 15, 6},
		{"\xff", 0x7a0b824e, 14, 2},
		{"amgtda", 0x2f, 15, 27},
		{"acnhbi", 0x1e, 14, 28},
		{"xgnlvh", 0xc, 12, 29},
		{"cmugue", 0x7, 7, 29},
	}
	for _, c := range cases {
		if h := tributary.Hash(c.key); h != c.hash {
			t.Errorf("P3: Hash(%q) = %x, want %x", c.key, h, c.hash)
		}
		want := api.Sketch{Count: 1, Sum: 5, Least: 5, Greatest: 5}
		want.Regs[c.register] = c.want
		want.Hist[0] = 1
		if got := tributary.Add(empty, c.key, 5); got != want {
			t.Errorf("P3: the sketch of %q, 5 = %+v, want %+v", c.key, got, want)
		}
	}
}

func TestMergeStops(t *testing.T) {
	counts := [][3]uint16{{0, 0, 0}, {1, 2, 3}, {65535, 0, 65535}, {65534, 1, 65535}, {65535, 1, 65535}, {65535, 2, 65535}, {65535, 65535, 65535}, {32768, 32768, 65535}, {32768, 32767, 65535}, {32767, 32767, 65534}}
	for _, c := range counts {
		if got := tributary.Merge(api.Sketch{Count: c[0]}, api.Sketch{Count: c[1]}).Count; got != c[2] {
			t.Errorf("P3: Count %d merged with %d = %d, want %d", c[0], c[1], got, c[2])
		}
	}
	sums := [][3]uint32{{4294967295, 3, 2}, {4294967295, 1, 0}, {4294967294, 1, 4294967295}, {4294967295, 4294967295, 4294967294}, {2147483648, 2147483648, 0}, {5, 6, 11}}
	for _, c := range sums {
		if got := tributary.Merge(api.Sketch{Sum: c[0]}, api.Sketch{Sum: c[1]}).Sum; got != c[2] {
			t.Errorf("P3: Sum %d merged with %d = %d, want %d", c[0], c[1], got, c[2])
		}
	}
	buckets := [][3]uint8{{200, 100, 255}, {255, 1, 255}, {254, 1, 255}, {253, 1, 254}, {255, 255, 255}, {128, 128, 255}, {0, 0, 0}}
	for _, c := range buckets {
		for b := range api.Buckets {
			var x, y, want api.Sketch
			x.Hist[b], y.Hist[b], want.Hist[b] = c[0], c[1], c[2]
			if got := tributary.Merge(x, y); got != want {
				t.Errorf("P3: bucket %d: %d merged with %d = %v, want %v", b, c[0], c[1], got.Hist, want.Hist)
			}
		}
	}
}

func TestMergeOfEachField(t *testing.T) {
	a := api.Sketch{Count: 3, Sum: 10, Least: -7, Greatest: 4, Regs: [16]uint8{0: 1, 1: 255, 7: 9, 15: 30}, Hist: [8]uint8{1, 0, 2, 0, 0, 0, 0, 3}}
	b := api.Sketch{Count: 4, Sum: 20, Least: -6, Greatest: 5, Regs: [16]uint8{0: 2, 1: 254, 8: 9, 15: 30}, Hist: [8]uint8{1, 5, 0, 0, 0, 0, 0, 4}}
	want := api.Sketch{Count: 7, Sum: 30, Least: -7, Greatest: 5, Regs: [16]uint8{0: 2, 1: 255, 7: 9, 8: 9, 15: 30}, Hist: [8]uint8{2, 5, 2, 0, 0, 0, 0, 7}}
	if got := tributary.Merge(a, b); got != want {
		t.Errorf("P3: Merge = %+v, want %+v", got, want)
	}
	if got := tributary.Merge(b, a); got != want {
		t.Errorf("P3: Merge, the other way round, = %+v, want %+v", got, want)
	}
}

// TestAnySketches: P3 holds for sketches that no events make.
func TestAnySketches(t *testing.T) {
	n := numbers{2}
	for range 20000 {
		a, b, key, v := n.sketch(), n.sketch(), n.key(), n.value()
		if got, want := tributary.Merge(a, b), wantMerge(a, b); got != want {
			t.Fatalf("P3: Merge(%+v, %+v) = %+v, want %+v", a, b, got, want)
		}
		if got := tributary.Merge(a, empty); got != a {
			t.Fatalf("P3: Merge(%+v, the empty sketch) = %+v", a, got)
		}
		if got := tributary.Merge(empty, a); got != a {
			t.Fatalf("P3: Merge(the empty sketch, %+v) = %+v", a, got)
		}
		if got, want := tributary.Add(a, key, v), wantMerge(a, wantOne(key, v)); got != want {
			t.Fatalf("P3: Add(%+v, %q, %d) = %+v, want %+v", a, key, v, got, want)
		}
	}
}

// TestOrderIsNothing: the sketch of some events is the same, whatever order they are added or merged in.
func TestOrderIsNothing(t *testing.T) {
	n := numbers{3}
	const events = 700
	var keys [events]string
	var values [events]int32
	for i := range keys {
		keys[i], values[i] = n.key(), n.value()
	}
	forth, back, odd, even := tributary.Empty(), tributary.Empty(), tributary.Empty(), tributary.Empty()
	for i := range keys {
		forth = tributary.Add(forth, keys[i], values[i])
		back = tributary.Add(back, keys[events-1-i], values[events-1-i])
		if i%2 == 0 {
			even = tributary.Add(even, keys[i], values[i])
		} else {
			odd = tributary.Add(odd, keys[i], values[i])
		}
	}
	if forth.Count != events {
		t.Errorf("P3: %d events have Count %d", events, forth.Count)
	}
	if back != forth {
		t.Errorf("P3: added backwards: %+v, want %+v", back, forth)
	}
	if got := tributary.Merge(odd, even); got != forth {
		t.Errorf("P3: merged of two halves: %+v, want %+v", got, forth)
	}
}

func TestManyEvents(t *testing.T) {
	s := tributary.Empty()
	for range 65540 {
		s = tributary.Add(s, "a", 65537)
	}
	want := api.Sketch{Count: 65535, Sum: uint32(65540 * 65537 % (1 << 32)), Least: 65537, Greatest: 65537}
	want.Regs[12] = 1
	want.Hist[4] = 255
	if s != want {
		t.Errorf("P3: 65540 events of 65537 = %+v, want %+v", s, want)
	}
}

func TestDistinctOfEqualRegisters(t *testing.T) {
	cases := []struct {
		register uint8
		want     uint64
	}{{0, 10}, {1, 21}, {2, 43}, {4, 172}, {28, 2885681152}, {29, 5771362304}, {31, 23085449216}, {32, 46170898432}, {33, 46170898432}, {64, 46170898432}, {96, 46170898432}, {255, 46170898432}}
	for _, c := range cases {
		s := tributary.Empty()
		for i := range s.Regs {
			s.Regs[i] = c.register
		}
		if got := tributary.Distinct(s); got != c.want {
			t.Errorf("P4: Distinct, all registers %d, = %d, want %d", c.register, got, c.want)
		}
	}
}

// TestDistinctOfEachRegister: each register counts, by itself, beside fifteen that count 1.
func TestDistinctOfEachRegister(t *testing.T) {
	for i := range api.Registers {
		for r := range 256 {
			var s api.Sketch
			for j := range s.Regs {
				s.Regs[j] = 32
			}
			s.Regs[i] = uint8(r)
			if got, want := tributary.Distinct(s), wantDistinct(s); got != want {
				t.Errorf("P4: Distinct, all registers 32 and the %d-th %d, = %d, want %d", i, r, got, want)
			}
		}
	}
}

func TestDistinctReadsRegistersAlone(t *testing.T) {
	n := numbers{4}
	for range 20000 {
		s := n.sketch()
		want := wantDistinct(s)
		if got := tributary.Distinct(s); got != want {
			t.Fatalf("P4: Distinct(%v) = %d, want %d", s.Regs, got, want)
		}
		if got := tributary.Distinct(api.Sketch{Regs: s.Regs}); got != want {
			t.Fatalf("P4: Distinct(%v), the other fields noughts, = %d, want %d", s.Regs, got, want)
		}
	}
}

func TestRankOfParts(t *testing.T) {
	const lowest, highest = math.MinInt, math.MaxInt
	cases := []struct {
		hist [8]uint8
		part int
		want int
	}{
		{[8]uint8{1, 0, 3}, lowest, 0},
		{[8]uint8{1, 0, 3}, -1, 0},
		{[8]uint8{1, 0, 3}, 0, 0},
		{[8]uint8{1, 0, 3}, 250, 0},
		{[8]uint8{1, 0, 3}, 251, 2},
		{[8]uint8{1, 0, 3}, 1000, 2},
		{[8]uint8{1, 0, 3}, 1001, 2},
		{[8]uint8{1, 0, 3}, highest, 2},
		{[8]uint8{7: 1}, lowest, 0},
		{[8]uint8{7: 1}, 0, 0},
		{[8]uint8{7: 1}, 1, 7},
		{[8]uint8{7: 255}, highest, 7},
		{[8]uint8{0, 2, 0, 2}, 0, 0},
		{[8]uint8{0, 2, 0, 2}, 500, 1},
		{[8]uint8{0, 2, 0, 2}, 501, 3},
		{[8]uint8{1, 1, 1}, 333, 0},
		{[8]uint8{1, 1, 1}, 334, 1},
		{[8]uint8{1, 1, 1}, 666, 1},
		{[8]uint8{1, 1, 1}, 667, 2},
		{[8]uint8{255, 255, 255, 255, 255, 255, 255, 255}, 125, 0},
		{[8]uint8{255, 255, 255, 255, 255, 255, 255, 255}, 126, 1},
		{[8]uint8{255, 255, 255, 255, 255, 255, 255, 255}, 875, 6},
		{[8]uint8{255, 255, 255, 255, 255, 255, 255, 255}, 876, 7},
		{[8]uint8{}, lowest, 0},
		{[8]uint8{}, 0, 0},
		{[8]uint8{}, 500, 0},
		{[8]uint8{}, 1000, 0},
		{[8]uint8{}, highest, 0},
	}
	for _, c := range cases {
		if got := tributary.Rank(api.Sketch{Hist: c.hist}, c.part); got != c.want {
			t.Errorf("P5: Rank(%v, %d) = %d, want %d", c.hist, c.part, got, c.want)
		}
	}
}

func TestRankOfAnySketches(t *testing.T) {
	n := numbers{5}
	for range 5000 {
		s := n.sketch()
		part := int(n.next()%1200) - 100
		want := wantRank(s, part)
		if got := tributary.Rank(s, part); got != want {
			t.Fatalf("P5: Rank(%v, %d) = %d, want %d", s.Hist, part, got, want)
		}
		if got := tributary.Rank(api.Sketch{Hist: s.Hist}, part); got != want {
			t.Fatalf("P5: Rank(%v, %d), the other fields noughts, = %d, want %d", s.Hist, part, got, want)
		}
	}
}
