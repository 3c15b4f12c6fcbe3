// Package sketch: what some events were, summed up: how sketches are made, merged and read.
package sketch

import "tributary/api"

const (
	hashStart  uint32 = 2166136261
	hashFactor uint32 = 16777619

	maxCount  = 65535
	maxBucket = 255

	leastInt32    int32 = -2147483648
	greatestInt32 int32 = 2147483647
)

// Hash tells the hash of a key.
func Hash(key string) uint32 {
	h := hashStart
	for i := 0; i < len(key); i++ {
		h = (h ^ uint32(key[i])) * hashFactor
	}
	return h
}

// Empty is the sketch of no events: its Least and Greatest give way to those of whatever it is merged with.
func Empty() api.Sketch {
	return api.Sketch{Least: greatestInt32, Greatest: leastInt32}
}

// Add is s merged with the sketch of one event.
func Add(s api.Sketch, key string, v int32) api.Sketch {
	event := one(key, v)
	return Merge(s, event)
}

// one is the sketch of one event.
func one(key string, v int32) api.Sketch {
	s := api.Sketch{Count: 1, Sum: uint32(v), Least: v, Greatest: v}
	h := Hash(key)
	s.Regs[h%api.Registers] = register(h)
	s.Hist[bucket(v)] = 1
	return s
}

// register is what a hash lays in its register. The lowest four bits do not count: they chose which register it is.
func register(h uint32) uint8 {
	n := uint8(1)
	for bit := uint32(1) << 31; bit >= api.Registers && h&bit == 0; bit /= 2 {
		n++
	}
	return n
}

// bucket is the number of the bucket of v. It is at most 7: no int32 needs more than 31 bits.
func bucket(v int32) int {
	bits := 0
	for v > 0 {
		v /= 2
		bits++
	}
	return bits / 4
}

// Merge is what merging a and b makes.
func Merge(a api.Sketch, b api.Sketch) api.Sketch {
	m := api.Sketch{Sum: a.Sum + b.Sum, Least: a.Least, Greatest: a.Greatest}
	m.Count = uint16(sumUpTo(int(a.Count), int(b.Count), maxCount))
	if b.Least < m.Least {
		m.Least = b.Least
	}
	if b.Greatest > m.Greatest {
		m.Greatest = b.Greatest
	}
	for i := 0; i < api.Registers; i++ {
		m.Regs[i] = a.Regs[i]
		if b.Regs[i] > m.Regs[i] {
			m.Regs[i] = b.Regs[i]
		}
	}
	for i := 0; i < api.Buckets; i++ {
		m.Hist[i] = uint8(sumUpTo(int(a.Hist[i]), int(b.Hist[i]), maxBucket))
	}
	return m
}

// sumUpTo is the sum of a and b, but at most the limit.
func sumUpTo(a int, b int, limit int) int {
	if a+b > limit {
		return limit
	}
	return a + b
}
