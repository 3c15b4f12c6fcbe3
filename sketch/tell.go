package sketch

import "tributary/api"

const (
	distinctScale uint64 = 172 << 32
	maxRegister          = 32
	wholePart            = 1000
)

// Distinct tells about how many different keys there were.
func Distinct(s api.Sketch) uint64 {
	// Each register gives 1 or more, so that this is never 0.
	sum := uint64(0)
	for i := 0; i < api.Registers; i++ {
		sum += weight(s.Regs[i])
	}
	return distinctScale / sum
}

// weight is 2 to the (32 - r), where r above 32 counts as 32.
func weight(r uint8) uint64 {
	if r > maxRegister {
		return 1
	}
	return uint64(1) << (maxRegister - r)
}

// Rank tells the first bucket up to which part thousandths of all lie.
func Rank(s api.Sketch, part int) int {
	all := 0
	for b := 0; b < api.Buckets; b++ {
		all += int(s.Hist[b])
	}
	need := within(part) * all
	seen := 0
	for b := 0; b < api.Buckets-1; b++ {
		seen += int(s.Hist[b])
		if seen*wholePart >= need {
			return b
		}
	}
	// All buckets together are always enough, so the last one needs no test.
	return api.Buckets - 1
}

// within is the part, brought into 0 to 1000.
func within(part int) int {
	if part < 0 {
		return 0
	}
	if part > wholePart {
		return wholePart
	}
	return part
}
