package locktest

import (
	"math"
	"slices"

	"ropeline/api"
)

const top = 1<<32 - 1 // the greatest word

// Starts are words at which numbers may begin; from the last ones on they go round.
func Starts() []uint32 {
	return []uint32{0, 1, 2, 63, 64, 4095, 4096, 1<<31 - 1, 1 << 31, 1<<31 + 1, top - 63, top - 1, top}
}

// WrongSizes are neither numbers of threads nor of slots; cut down to 32 bits, to 8 or to 7, many of them would be fine.
func WrongSizes() []int {
	return []int{0, -1, -2, -64, 65, 66, 100, 127, 128, 129, 256, 257, 1 << 31, 1 << 32, 1<<32 + 1, -1 << 32, 1 - 1<<32, math.MaxInt, math.MaxInt - 1, math.MinInt, math.MinInt + 1}
}

// Shuffled is the numbers below n, each once, in an order that looks mixed, and is the same one for the same seed.
func Shuffled(n int, seed uint64) []int {
	d := dice(seed)
	var l []int
	for k := range n {
		l = slices.Insert(l, d.below(k+1), k)
	}
	return l
}

// Orders are some in which so many threads do something by turns; in the last ones some do more than others.
func Orders(n int) [][]int {
	rising := make([]int, n)
	for k := range n {
		rising[k] = k
	}
	falling := slices.Clone(rising)
	slices.Reverse(falling)
	return [][]int{rising, falling, Shuffled(n, 3), Shuffled(n, 8), slices.Concat(rising, falling[:1]), slices.Concat(rising[:n/2], falling, rising[:1])}
}

// Most is how often the thread that stands most often in an order stands there.
func Most(order []int) int {
	most, times := 0, map[int]int{}
	for _, t := range order {
		times[t]++
		most = max(most, times[t])
	}
	return most
}

// Spoil lays other things into all of a spec, and into what room there is behind its lists.
func Spoil(s *api.Spec) {
	fill(s.Code.L, api.Inst{Op: api.Done, K: 3})
	fill(s.Sizes, 7)
	fill(s.Init, 77)
	fill(s.R7, 66)
	s.Code.Lock, s.Code.Unlock, s.Each = 3, 4, 5
}

func fill[T any](l []T, v T) {
	all := l[:cap(l)]
	for n := range all {
		all[n] = v
	}
}
