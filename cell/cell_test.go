package cell

import (
	"math"
	"slices"
	"testing"

	"ropeline/api"
)

func mustNew(t *testing.T, n int) *Cells {
	t.Helper()
	c, e := New(n)
	if e != api.OK || c == nil {
		t.Fatalf("New(%d): error %d", n, e)
	}
	return c
}

// wantWords asks for all that tells what the cells are: Len, Words, and Load of each.
func wantWords(t *testing.T, c *Cells, want ...uint32) {
	t.Helper()
	if c.Len() != len(want) {
		t.Fatalf("Len() = %d, want %d", c.Len(), len(want))
	}
	if w := c.Words(); !slices.Equal(w, want) {
		t.Fatalf("Words() = %v, want %v", w, want)
	}
	for a, v := range want {
		if c.Load(a) != v {
			t.Fatalf("Load(%d) = %d, want %d", a, c.Load(a), v)
		}
	}
}

// P2.1

func TestNewGivesAsManyCellsAllOfThem0(t *testing.T) {
	for _, n := range []int{0, 1, 2, 3, 64, 4096, 8191, 8192} {
		wantWords(t, mustNew(t, n), make([]uint32, n)...)
	}
}

func TestNewRefusesWhatIsOutOfRange(t *testing.T) {
	for _, n := range []int{
		-1, -8192, 8193, 16384,
		// Cut down to 32 bits these would be fine.
		1 << 32, 1<<32 + 3, -1 << 32, 3 - 1<<32,
		math.MaxInt, math.MinInt,
	} {
		if c, e := New(n); c != nil || e != api.ErrArg {
			t.Errorf("New(%d) = %v, error %d, want nil, error %d", n, c, e, api.ErrArg)
		}
	}
}

func TestStoreMakesOneCellWhatItIsGiven(t *testing.T) {
	c := mustNew(t, 4)
	c.Store(2, 7)
	wantWords(t, c, 0, 0, 7, 0)
	c.Store(0, math.MaxUint32)
	wantWords(t, c, math.MaxUint32, 0, 7, 0)
	c.Store(3, 1<<31)
	wantWords(t, c, math.MaxUint32, 0, 7, 1<<31)
	c.Store(2, 0)
	wantWords(t, c, math.MaxUint32, 0, 0, 1<<31)
}

func TestLoadChangesNothing(t *testing.T) {
	c := mustNew(t, 2)
	c.Store(1, 9)
	for range 3 {
		if c.Load(0) != 0 || c.Load(1) != 9 {
			t.Fatalf("Load: %d, %d", c.Load(0), c.Load(1))
		}
	}
	wantWords(t, c, 0, 9)
}

func TestSwapTellsWhatTheCellWas(t *testing.T) {
	c := mustNew(t, 3)
	for _, s := range []struct {
		a      int
		v, was uint32
	}{
		{1, 5, 0},
		{1, 6, 5},
		{1, 6, 6},
		{0, math.MaxUint32, 0},
		{1, 0, 6},
		{0, 1, math.MaxUint32},
		{2, 2, 0},
	} {
		if was := c.Swap(s.a, s.v); was != s.was {
			t.Errorf("Swap(%d, %d) = %d, want %d", s.a, s.v, was, s.was)
		}
		if c.Load(s.a) != s.v {
			t.Errorf("behind Swap(%d, %d) the cell is %d", s.a, s.v, c.Load(s.a))
		}
	}
	wantWords(t, c, 1, 0, 2)
}

func TestCasMakesACellNewThatIsOld(t *testing.T) {
	c := mustNew(t, 3)
	for _, s := range []struct {
		a        int
		old, new uint32
	}{
		{1, 0, 4},
		{1, 4, 4},
		{1, 4, math.MaxUint32},
		{2, 0, 1},
		{1, math.MaxUint32, 0},
		{0, 0, 0},
	} {
		if !c.Cas(s.a, s.old, s.new) {
			t.Errorf("Cas(%d, %d, %d) = false", s.a, s.old, s.new)
		}
		if c.Load(s.a) != s.new {
			t.Errorf("behind Cas(%d, %d, %d) the cell is %d", s.a, s.old, s.new, c.Load(s.a))
		}
	}
	wantWords(t, c, 0, 0, 1)
}

func TestCasLeavesACellThatIsNotOld(t *testing.T) {
	c := mustNew(t, 3)
	c.Store(1, 4)
	for _, s := range []struct {
		a        int
		old, new uint32
	}{
		{1, 0, 7},
		{1, 3, 4},
		{1, 5, 4},
		{1, 7, 4}, // the cell is new already, but not old
		{1, 4 | 1<<31, 7},
		{1, math.MaxUint32, 0},
		{0, 4, 7},
		{2, 4, 7},
	} {
		if c.Cas(s.a, s.old, s.new) {
			t.Errorf("Cas(%d, %d, %d) = true", s.a, s.old, s.new)
		}
		wantWords(t, c, 0, 4, 0)
	}
}

func TestAddTellsWhatTheCellWas(t *testing.T) {
	c := mustNew(t, 3)
	for _, s := range []struct {
		a               int
		k, was, becomes uint32
	}{
		{1, 1, 0, 1},
		{1, 5, 1, 6},
		{1, 0, 6, 6},
		{0, 1 << 31, 0, 1 << 31},
		{1, 10, 6, 16},
		{2, math.MaxUint32 - 1, 0, math.MaxUint32 - 1},
		{2, 1, math.MaxUint32 - 1, math.MaxUint32},
	} {
		if was := c.Add(s.a, s.k); was != s.was {
			t.Errorf("Add(%d, %d) = %d, want %d", s.a, s.k, was, s.was)
		}
		if c.Load(s.a) != s.becomes {
			t.Errorf("behind Add(%d, %d) the cell is %d, want %d", s.a, s.k, c.Load(s.a), s.becomes)
		}
	}
	wantWords(t, c, 1<<31, 16, math.MaxUint32)
}

func TestAddGoesRoundPastTheLastWord(t *testing.T) {
	for _, s := range []struct{ at, k, becomes uint32 }{
		{3, math.MaxUint32, 2}, // the chapter's example
		{math.MaxUint32, 1, 0},
		{math.MaxUint32, 2, 1},
		{math.MaxUint32, math.MaxUint32, math.MaxUint32 - 1},
		{1 << 31, 1 << 31, 0},
		{1, math.MaxUint32, 0},
	} {
		c := mustNew(t, 3)
		c.Store(1, s.at)
		if was := c.Add(1, s.k); was != s.at {
			t.Errorf("Add of %d at a cell of %d = %d", s.k, s.at, was)
		}
		wantWords(t, c, 0, s.becomes, 0)
	}
}

func TestWordsTellsInTheOrderOfAddresses(t *testing.T) {
	c := mustNew(t, api.MaxCells)
	want := make([]uint32, api.MaxCells)
	for a := range want {
		want[a] = math.MaxUint32 - 3*uint32(a)
	}
	for a := len(want) - 1; a >= 0; a-- {
		c.Store(a, want[a])
	}
	wantWords(t, c, want...)
}

func TestWordsStaysWhatItWasAsCellsChange(t *testing.T) {
	c := mustNew(t, 5)
	c.Store(1, 7)
	w := c.Words()
	c.Store(0, 1)
	c.Swap(1, 2)
	c.Cas(2, 0, 3)
	c.Add(3, 4)
	if !slices.Equal(w, []uint32{0, 7, 0, 0, 0}) {
		t.Errorf("what was told before is %v now", w)
	}
	wantWords(t, c, 1, 2, 3, 4, 0)
}

func TestChangingWhatWordsToldChangesNoCell(t *testing.T) {
	c := mustNew(t, 3)
	c.Store(1, 7)
	w := c.Words()
	w[0], w[1], w[2] = 1, 2, 3
	_ = append(w, 4)
	wantWords(t, c, 0, 7, 0)
}

func TestCellsShareNothingWithOthers(t *testing.T) {
	c, d := mustNew(t, 2), mustNew(t, 2)
	c.Store(0, 1)
	d.Add(1, 2)
	wantWords(t, c, 1, 0)
	wantWords(t, d, 0, 2)
}

// draws gives numbers from a rule of its own, so that a run is the same each time.
type draws struct{ x uint64 }

func (d *draws) next(n int) int {
	d.x = d.x*6364136223846793005 + 1442695040888963407
	return int(d.x >> 33 % uint64(n))
}

// word is mostly one of few, so that a Cas often finds what it asks for, and an Add often goes round.
func (d *draws) word() uint32 {
	few := []uint32{0, 1, 2, math.MaxUint32, math.MaxUint32 - 1, 1 << 31}
	if i := d.next(len(few) + 1); i < len(few) {
		return few[i]
	}
	return uint32(d.next(1 << 31))
}

// doBoth does one access at cells and at plain words, and tells whether both answer the same.
func doBoth(d *draws, c *Cells, want []uint32) bool {
	a, v, w := d.next(len(want)), d.word(), d.word()
	was := want[a]
	switch d.next(5) {
	case 0:
		return c.Load(a) == was
	case 1:
		c.Store(a, v)
		want[a] = v
		return true
	case 2:
		want[a] = v
		return c.Swap(a, v) == was
	case 3:
		if was == v {
			want[a] = w
		}
		return c.Cas(a, v, w) == (was == v)
	default:
		want[a] = uint32((uint64(was) + uint64(v)) % (1 << 32))
		return c.Add(a, v) == was
	}
}

func TestAccessesAreWhatIsSaidBehindAnyOthers(t *testing.T) {
	for _, n := range []int{1, 2, 5, 16} {
		d := &draws{x: uint64(n)}
		c, want := mustNew(t, n), make([]uint32, n)
		for i := range 20000 {
			if !doBoth(d, c, want) {
				t.Fatalf("%d cells: access %d answers otherwise", n, i)
			}
			if i%100 == 0 {
				wantWords(t, c, want...)
			}
		}
		wantWords(t, c, want...)
	}
}

func TestLastOfAllCells(t *testing.T) {
	c := mustNew(t, api.MaxCells)
	last := api.MaxCells - 1
	c.Store(last, 3)
	if c.Add(last, math.MaxUint32) != 3 || c.Swap(last, 8) != 2 || c.Cas(last, 2, 9) || !c.Cas(last, 8, 9) {
		t.Error("an access of the last cell answers otherwise")
	}
	want := make([]uint32, api.MaxCells)
	want[last] = 9
	wantWords(t, c, want...)
}

func TestOneCell(t *testing.T) {
	c := mustNew(t, 1)
	c.Store(0, 3)
	if c.Add(0, math.MaxUint32) != 3 || c.Swap(0, 8) != 2 || c.Cas(0, 2, 9) || !c.Cas(0, 8, 9) {
		t.Error("an access of the only cell answers otherwise")
	}
	wantWords(t, c, 9)
}

// Nothing is promised of addresses that aren't there but an end, so what is asked here is just that, and that no other cell is touched.
func TestAddressesThatAreNotThereEndWithoutPanic(t *testing.T) {
	for _, n := range []int{0, 1, 3} {
		for _, a := range []int{-1, n, n + 1, api.MaxCells, 1 << 32, math.MaxInt, math.MinInt} {
			c := mustNew(t, n)
			c.Load(a)
			c.Store(a, 5)
			c.Swap(a, 6)
			c.Cas(a, 0, 7)
			c.Add(a, 8)
			wantWords(t, c, make([]uint32, n)...)
		}
	}
}
