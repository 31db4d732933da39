package locktest

import (
	"slices"
	"testing"

	"ropeline/api"
)

func TestStarts(t *testing.T) {
	l := Starts()
	for _, start := range []uint32{0, 1, 1 << 31, top - 1, top} {
		if !slices.Contains(l, start) {
			t.Errorf("%d isn't among %v", start, l)
		}
	}
	l[0] = 9
	if Starts()[0] == 9 {
		t.Error("one list is the other")
	}
}

func TestWrongSizes(t *testing.T) {
	l := WrongSizes()
	fine := map[int]int{}
	for _, n := range l {
		if n >= 1 && n <= api.MaxThreads {
			t.Errorf("%d is fine", n)
		}
		for _, cut := range []int{int(int32(n)), int(uint8(n)), n & 127} {
			if cut >= 1 && cut <= api.MaxThreads {
				fine[n]++
			}
		}
	}
	if !slices.Contains(l, 0) || !slices.Contains(l, -1) || !slices.Contains(l, api.MaxThreads+1) || len(fine) < 5 {
		t.Errorf("%v: %d of them would be fine, if cut down", l, len(fine))
	}
	l[0] = 9
	if WrongSizes()[0] == 9 {
		t.Error("one list is the other")
	}
}

func wantEachOnce(t *testing.T, l []int, n int) {
	t.Helper()
	rising := slices.Sorted(slices.Values(l))
	if !slices.Equal(rising, order(n)) {
		t.Errorf("%v isn't each of %d once", l, n)
	}
}

func TestShuffledIsEachOnce(t *testing.T) {
	for _, n := range []int{0, 1, 2, 3, 9, 64} {
		for seed := range uint64(70) {
			l := Shuffled(n, seed)
			wantEachOnce(t, l, n)
			if !slices.Equal(Shuffled(n, seed), l) {
				t.Errorf("Shuffled(%d, %d) isn't the same each time", n, seed)
			}
		}
	}
}

// All orders of few come, and those of more are hardly ever one twice.
func TestShuffledLooksMixed(t *testing.T) {
	for _, c := range []struct{ n, least int }{{2, 2}, {3, 6}, {4, 24}, {9, 190}, {64, 200}} {
		met := map[string]bool{}
		for seed := range uint64(200) {
			met[numbers(Shuffled(c.n, seed))] = true
		}
		if len(met) < c.least {
			t.Errorf("of 200 orders of %d there are %d", c.n, len(met))
		}
	}
}

func TestOrders(t *testing.T) {
	for _, n := range []int{1, 2, 3, 8, 64} {
		l := Orders(n)
		if !slices.Equal(l[0], order(n)) {
			t.Errorf("the first order of %d is %v", n, l[0])
		}
		uneven, met := 0, map[string]bool{}
		for _, its := range l {
			met[numbers(its)] = true
			wantEachOnce(t, slices.Compact(slices.Sorted(slices.Values(its))), n)
			if len(its) != n {
				uneven++
			}
		}
		if uneven == 0 || uneven == len(l) {
			t.Errorf("of %d orders of %d, in %d some do more than others", len(l), n, uneven)
		}
		if n >= 8 && len(met) != len(l) {
			t.Errorf("of %d orders of %d only %d differ", len(l), n, len(met))
		}
	}
}

func TestMost(t *testing.T) {
	for _, c := range []struct {
		order []int
		want  int
	}{{nil, 0}, {[]int{3}, 1}, {[]int{0, 1, 2}, 1}, {[]int{0, 1, 0}, 2}, {[]int{2, 2, 1, 2, 1}, 3}, {[]int{0, 1, 1, 1, 0}, 3}} {
		if got := Most(c.order); got != c.want {
			t.Errorf("Most(%v) = %d, want %d", c.order, got, c.want)
		}
	}
}

func TestSpoil(t *testing.T) {
	code := api.Code{L: make([]api.Inst, 1, 3)}
	s := api.Spec{Code: code, Sizes: make([]int, 0, 2), Init: make([]uint32, 2), R7: make([]uint32, 1, 2)}
	Spoil(&s)
	other := api.Inst{Op: api.Done, K: 3}
	if !slices.Equal(code.L[:3], []api.Inst{other, other, other}) || !slices.Equal(s.Sizes[:2], []int{7, 7}) {
		t.Errorf("the code is %v, the sizes are %v", code.L[:3], s.Sizes[:2])
	}
	if !slices.Equal(s.Init, []uint32{77, 77}) || !slices.Equal(s.R7[:2], []uint32{66, 66}) {
		t.Errorf("the cells are %v, the registers 7 %v", s.Init, s.R7[:2])
	}
	if s.Code.Lock != 3 || s.Code.Unlock != 4 || s.Each != 5 {
		t.Errorf("lock %d, unlock %d, each %d", s.Code.Lock, s.Code.Unlock, s.Each)
	}
}
