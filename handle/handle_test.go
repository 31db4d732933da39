package handle

import (
	"math"
	"testing"

	"ropeline/api"
)

const (
	lastIndex = 4095
	lastGen   = 1<<18 - 1
	highBits  = uint32(3) << 30
)

// samples are both ends of a range, what lies beside them, and each single bit between.
func samples(last int) []int {
	l := []int{0, last / 3, last - 1, last}
	for bit := 1; bit <= last; bit <<= 1 {
		l = append(l, bit)
	}
	return l
}

func mustNew(t *testing.T, index, gen int) uint32 {
	t.Helper()
	h, e := New(index, gen)
	if e != api.OK {
		t.Fatalf("New(%d, %d): error %d", index, gen, e)
	}
	return h
}

// P1.1

func TestNewGivesTheWordsThatTheChapterNames(t *testing.T) {
	for _, c := range []struct {
		index, gen int
		want       uint32
	}{
		{0, 0, 0},
		{1, 0, 1},
		{lastIndex, 0, 4095},
		{0, 1, 4096},
		{5, 2, 8197},
		{5, 3, 12293},
		{0, lastGen, 1073737728},
		{lastIndex, lastGen, 1073741823},
	} {
		if h := mustNew(t, c.index, c.gen); h != c.want {
			t.Errorf("New(%d, %d) = %d, want %d", c.index, c.gen, h, c.want)
		}
	}
}

func TestNewRefusesWhatIsOutOfRange(t *testing.T) {
	for _, c := range []struct{ index, gen int }{
		{-1, 0}, {0, -1}, {-1, -1},
		{lastIndex + 1, 0}, {0, lastGen + 1}, {lastIndex + 1, lastGen + 1},
		{-1, lastGen}, {lastIndex, -1},
		{lastIndex + 1, lastGen}, {lastIndex, lastGen + 1},
		{-1, lastGen + 1}, {lastIndex + 1, -1},
		// Cut down to 32 bits, or to their own, these would be fine.
		{1 << 32, 0}, {0, 1 << 32}, {1<<32 + 5, 2}, {5, 1<<32 + 2},
		{math.MaxInt, 0}, {0, math.MaxInt}, {math.MaxInt, math.MaxInt},
		{math.MinInt, 0}, {0, math.MinInt}, {math.MinInt, math.MinInt},
	} {
		if h, e := New(c.index, c.gen); h != 0 || e != api.ErrArg {
			t.Errorf("New(%d, %d) = %d, error %d, want 0, error %d", c.index, c.gen, h, e, api.ErrArg)
		}
	}
}

func TestIndexAndGenGiveBackWhatNewTook(t *testing.T) {
	for _, index := range samples(lastIndex) {
		for _, gen := range samples(lastGen) {
			h := mustNew(t, index, gen)
			if Index(h) != index || Gen(h) != gen {
				t.Errorf("handle %d of (%d, %d): Index %d, Gen %d", h, index, gen, Index(h), Gen(h))
			}
			if !Right(h) {
				t.Errorf("handle %d of (%d, %d) isn't right", h, index, gen)
			}
		}
	}
}

func TestIndexAndGenDisregardTheHighestBits(t *testing.T) {
	for _, index := range samples(lastIndex) {
		for _, gen := range samples(lastGen) {
			h := mustNew(t, index, gen)
			for _, high := range []uint32{1 << 30, 1 << 31, highBits} {
				if Index(h|high) != index || Gen(h|high) != gen {
					t.Errorf("word %d: Index %d, Gen %d, want %d, %d", h|high, Index(h|high), Gen(h|high), index, gen)
				}
			}
		}
	}
}

func TestRightAsksForTheTwoHighestBitsAlone(t *testing.T) {
	for _, c := range []struct {
		h    uint32
		want bool
	}{
		{0, true},
		{1, true},
		{8197, true},
		{1<<29 | 7, true},
		{1<<30 - 1, true},
		{1 << 30, false},
		{1<<30 | 8197, false},
		{1<<31 - 1, false},
		{1 << 31, false},
		{1<<31 | 8197, false},
		{highBits, false},
		{math.MaxUint32, false},
	} {
		if Right(c.h) != c.want {
			t.Errorf("Right(%d) = %v", c.h, !c.want)
		}
	}
}

func TestNextHasTheSameIndexAndTheNextGeneration(t *testing.T) {
	for _, c := range []struct{ h, want uint32 }{
		{0, 4096},
		{7, 4103},
		{4095, 8191},
		{8197, 12293},
		{1<<30 - 1 - 4096, 1<<30 - 1},
	} {
		if Next(c.h) != c.want {
			t.Errorf("Next(%d) = %d, want %d", c.h, Next(c.h), c.want)
		}
	}
	for _, index := range samples(lastIndex) {
		for _, gen := range samples(lastGen) {
			want := mustNew(t, index, (gen+1)%(lastGen+1))
			if h := mustNew(t, index, gen); Next(h) != want {
				t.Errorf("Next of (%d, %d) = %d, want %d", index, gen, Next(h), want)
			}
		}
	}
}

func TestNextBehindTheLastGenerationIsTheFirst(t *testing.T) {
	for _, index := range samples(lastIndex) {
		if h := mustNew(t, index, lastGen); Next(h) != uint32(index) {
			t.Errorf("Next(%d) = %d, want %d", h, Next(h), index)
		}
	}
}

func TestNextOfAWordWithHighBitsIsAHandle(t *testing.T) {
	for _, gen := range samples(lastGen) {
		h := mustNew(t, 5, gen)
		for _, high := range []uint32{1 << 30, 1 << 31, highBits} {
			if Next(h|high) != Next(h) {
				t.Errorf("Next(%d) = %d, want %d", h|high, Next(h|high), Next(h))
			}
		}
	}
}

func TestNextComesRoundBehindAllGenerations(t *testing.T) {
	for _, index := range []int{0, 5, lastIndex} {
		h := mustNew(t, index, 0)
		for gen := range lastGen + 1 {
			if Index(h) != index || Gen(h) != gen || !Right(h) {
				t.Fatalf("generation %d of index %d is the word %d", gen, index, h)
			}
			h = Next(h)
		}
		if h != uint32(index) {
			t.Errorf("index %d comes round to %d", index, h)
		}
	}
}

// P1.2

func TestUnlikePairsHaveUnlikeHandles(t *testing.T) {
	type pair struct{ index, gen int }
	seen := make(map[uint32]pair)
	ask := func(p pair) {
		h := mustNew(t, p.index, p.gen)
		if other, ok := seen[h]; ok && other != p {
			t.Errorf("%v and %v have both the handle %d", p, other, h)
		}
		seen[h] = p
	}
	for index := range lastIndex + 1 {
		for _, gen := range samples(lastGen) {
			ask(pair{index, gen})
		}
	}
	for gen := range lastGen + 1 {
		for _, index := range []int{0, 1, 5, lastIndex - 1, lastIndex} {
			ask(pair{index, gen})
		}
	}
}

// A table of all 2^30 pairs would be too long; handles that only ascend from pair to pair need none to be unlike.
func TestHandlesOfAllPairsAscend(t *testing.T) {
	last := -1
	for gen := range lastGen + 1 {
		for index := range lastIndex + 1 {
			h, e := New(index, gen)
			if e != api.OK || int(h) <= last {
				t.Fatalf("New(%d, %d) = %d, error %d, behind %d", index, gen, h, e, last)
			}
			last = int(h)
		}
	}
}
