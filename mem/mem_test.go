package mem

import (
	"math"
	"slices"
	"testing"

	"ropeline/api"
	"ropeline/cell"
)

const (
	top   = 1<<32 - 1 // the greatest word
	most  = 4096      // the most cells of an area
	above = top - 4095
)

// farNumbers are no areas and no addresses, however many there are; cut down to 32 bits, to 16 or to 12, many of them would be fine.
var farNumbers = []int{-1, -2, -8, -4096, 8193, 1 << 16, 1 << 31, 1 << 32, 1<<32 + 1, -1 << 32, 1 - 1<<32, math.MaxInt, math.MinInt}

// shapes are memories as they may be: areas of no cells among others and at both ends, and as much as there may be of anything.
var shapes = [][]int{
	nil,
	{0},
	{1},
	{7},
	{most},
	{1, 3},
	{3, 1},
	{2, 0, 3},
	{0, 2, 3},
	{2, 3, 0},
	{0, 0, 4, 0, 0, 1, 0, 0},
	{0, 0, 0, 0, 0, 0, 0, 0},
	{1, 1, 1, 1, 1, 1, 1, 1},
	{5, 4, 3, 2, 1, 2, 3, 4},
	{most, 1},
	{1, most},
	{0, most, 0, most, 0},
	{most, most},
	{most, most - 1, 1},
	{most - 1, 2, most - 1},
	{1024, 1024, 1024, 1024, 1024, 1024, 1024, 1024},
	{most, 0, 0, 0, 0, 0, 0, most},
}

// words are all unlike each other, and so many that each of many cells can be told by what it is.
func words(n int) []uint32 {
	w := make([]uint32, n)
	for i := range w {
		w[i] = top - 3*uint32(i)
	}
	return w
}

func sum(sizes []int) int {
	n := 0
	for _, size := range sizes {
		n += size
	}
	return n
}

func mustNew(t *testing.T, sizes []int, init []uint32) *Mem {
	t.Helper()
	m, e := New(sizes, init)
	if m == nil || e != api.OK {
		t.Fatalf("New(%v, %d words) = %v, error %d", sizes, len(init), m, e)
	}
	return m
}

func wantRefused(t *testing.T, sizes []int, n int) {
	t.Helper()
	if m, e := New(sizes, make([]uint32, n)); m != nil || e != api.ErrArg {
		t.Errorf("New(%v, %d words) = %v, error %d, want nil, error %d", sizes, n, m, e, api.ErrArg)
	}
}

func wantAddress(t *testing.T, m *Mem, area int, v uint32, want int) {
	t.Helper()
	if a, ok := m.Address(area, v); a != want || !ok {
		t.Errorf("Address(%d, %d) = %d, %v, want %d, true", area, v, a, ok, want)
	}
}

func wantNoAddress(t *testing.T, m *Mem, area int, v uint32) {
	t.Helper()
	if a, ok := m.Address(area, v); a != 0 || ok {
		t.Errorf("Address(%d, %d) = %d, %v, want 0, false", area, v, a, ok)
	}
}

func wantArea(t *testing.T, m *Mem, a, wantArea, wantPlace int) {
	t.Helper()
	if area, place, ok := m.Area(a); area != wantArea || place != wantPlace || !ok {
		t.Errorf("Area(%d) = %d, %d, %v, want %d, %d, true", a, area, place, ok, wantArea, wantPlace)
	}
}

func wantNoArea(t *testing.T, m *Mem, a int) {
	t.Helper()
	if area, place, ok := m.Area(a); area != 0 || place != 0 || ok {
		t.Errorf("Area(%d) = %d, %d, %v, want 0, 0, false", a, area, place, ok)
	}
}

// wantCells asks for all that tells what the cells are: Len, Words, and Load of each.
func wantCells(t *testing.T, m *Mem, want []uint32) {
	t.Helper()
	if m.Len() != len(want) {
		t.Fatalf("Len() = %d, want %d", m.Len(), len(want))
	}
	if !slices.Equal(m.Words(), want) {
		t.Fatalf("Words() = %v, want %v", m.Words(), want)
	}
	for a, v := range want {
		if m.Load(a) != v {
			t.Fatalf("Load(%d) = %d, want %d", a, m.Load(a), v)
		}
	}
}

// wantAreas asks for all that tells how the areas lie: Areas, and every address of every area, there and back, with those beside them; they are counted on one by one.
func wantAreas(t *testing.T, m *Mem, sizes []int) {
	t.Helper()
	if m.Areas() != len(sizes) {
		t.Fatalf("Areas() = %d, want %d", m.Areas(), len(sizes))
	}
	next := 0
	for area, size := range sizes {
		for place := range size {
			wantAddress(t, m, area, uint32(place), next)
			wantArea(t, m, next, area, place)
			next++
		}
		if size < most {
			wantNoAddress(t, m, area, uint32(size))
			wantNoAddress(t, m, area, most-1)
		}
	}
	wantNoArea(t, m, -1)
	wantNoArea(t, m, next)
	for _, v := range []uint32{0, 1, most, top} {
		wantNoAddress(t, m, -1, v)
		wantNoAddress(t, m, len(sizes), v)
	}
}

// draws gives numbers from a rule of its own, so that a run is the same each time.
type draws struct{ x uint64 }

func (d *draws) next(n int) int {
	d.x = d.x*6364136223846793005 + 1442695040888963407
	return int(d.x >> 33 % uint64(n))
}

// word is mostly one of few, so that a Cas often finds what it asks for, and an Add often goes round.
func (d *draws) word() uint32 {
	few := []uint32{0, 1, 2, top, top - 1, 1 << 31}
	if i := d.next(len(few) + 1); i < len(few) {
		return few[i]
	}
	return uint32(d.next(1 << 31))
}

// P9.1

func TestExampleOfTheChapter(t *testing.T) {
	m := mustNew(t, []int{1, 3}, words(4))
	wantAddress(t, m, 1, 2, 3)
	wantAddress(t, m, 1, 4098, 3)
	wantNoAddress(t, m, 1, 3)
}

func TestMemoriesAreWhatTheyAreMadeOf(t *testing.T) {
	for _, sizes := range shapes {
		m := mustNew(t, sizes, words(sum(sizes)))
		wantCells(t, m, words(sum(sizes)))
		wantAreas(t, m, sizes)
	}
}

func TestAllMemoriesOfFourSmallAreas(t *testing.T) {
	var grow func(sizes []int)
	grow = func(sizes []int) {
		m := mustNew(t, sizes, words(sum(sizes)))
		wantCells(t, m, words(sum(sizes)))
		wantAreas(t, m, sizes)
		if len(sizes) < 4 {
			for size := range 4 {
				grow(append(slices.Clone(sizes), size))
			}
		}
	}
	grow(nil)
}

func TestCellsMayAllBe0(t *testing.T) {
	m := mustNew(t, []int{2, 0, 3}, make([]uint32, 5))
	wantCells(t, m, make([]uint32, 5))
	wantAreas(t, m, []int{2, 0, 3})
}

func TestNoSizesAreAMemoryOfNoAreas(t *testing.T) {
	for _, sizes := range [][]int{nil, {}, make([]int, 0, 3)} {
		for _, init := range [][]uint32{nil, {}, make([]uint32, 0, 3)} {
			m := mustNew(t, sizes, init)
			wantCells(t, m, nil)
			wantAreas(t, m, nil)
			wantNoArea(t, m, 0)
			wantNoAddress(t, m, 0, 0)
		}
	}
}

func TestAreasOfNoCellsAloneHaveNone(t *testing.T) {
	for n := 1; n <= api.MaxAreas; n++ {
		for _, init := range [][]uint32{nil, {}} {
			m := mustNew(t, make([]int, n), init)
			wantCells(t, m, nil)
			wantAreas(t, m, make([]int, n))
			wantNoArea(t, m, 0)
			for area := range n {
				for _, v := range []uint32{0, 1, most - 1, most, top} {
					wantNoAddress(t, m, area, v)
				}
			}
		}
	}
}

// An address where an area of no cells stands lies in the one behind it, and one behind the last cell in none.
func TestNoAddressLiesInAnAreaOfNoCells(t *testing.T) {
	m := mustNew(t, []int{0, 0, 2, 0, 1, 0}, words(3))
	wantArea(t, m, 0, 2, 0)
	wantArea(t, m, 1, 2, 1)
	wantArea(t, m, 2, 4, 0)
	wantNoArea(t, m, 3)
	for _, area := range []int{0, 1, 3, 5} {
		wantNoAddress(t, m, area, 0)
	}
}

func TestAddressTakesThe12LowestBitsOfAWord(t *testing.T) {
	m := mustNew(t, []int{3, 1, most, 2}, words(most+6))
	for _, c := range []struct {
		area int
		v    uint32
		want int // -1: none
	}{
		{0, 0, 0}, {0, 2, 2}, {0, 3, -1}, {0, 4095, -1}, {0, 4096, 0}, {0, 4097, 1}, {0, 4098, 2}, {0, 4099, -1}, {0, top, -1},
		{1, 0, 3}, {1, 1, -1}, {1, 4095, -1}, {1, 4096, 3}, {1, 4097, -1}, {1, above, 3}, {1, top, -1},
		{2, 0, 4}, {2, 4094, 4098}, {2, 4095, 4099}, {2, 4096, 4}, {2, 4097, 5}, {2, 8191, 4099}, {2, 8192, 4}, {2, above, 4}, {2, top, 4099},
		{3, 0, 4100}, {3, 1, 4101}, {3, 2, -1}, {3, 4095, -1}, {3, 4096, 4100}, {3, 4097, 4101}, {3, above + 1, 4101}, {3, above + 2, -1}, {3, top, -1},
		// A handle of index 2 and generation 2^18 - 1, and the same with the two highest bits.
		{0, 1<<30 - 4096 + 2, 2}, {0, above + 2, 2},
	} {
		if c.want < 0 {
			wantNoAddress(t, m, c.area, c.v)
		} else {
			wantAddress(t, m, c.area, c.v, c.want)
		}
	}
}

func TestAddressDisregardsAllHigherBits(t *testing.T) {
	highs := []uint32{above, 3 << 12, 5 << 29}
	for bit := 12; bit < 32; bit++ {
		highs = append(highs, 1<<bit)
	}
	for _, sizes := range shapes {
		m := mustNew(t, sizes, words(sum(sizes)))
		begin := 0
		for area, size := range sizes {
			for _, place := range []int{0, 1, size - 1, size, size + 1, most - 2, most - 1} {
				for _, high := range highs {
					if place >= 0 && place < size {
						wantAddress(t, m, area, high+uint32(place), begin+place)
					} else if place >= 0 && place < most {
						wantNoAddress(t, m, area, high+uint32(place))
					}
				}
			}
			begin += size
		}
	}
}

func TestAddressOfAllWordsOf14Bits(t *testing.T) {
	m := mustNew(t, []int{most, 5}, words(most+5))
	for v := range 1 << 14 {
		place := v % most
		wantAddress(t, m, 0, uint32(v), place)
		if place < 5 {
			wantAddress(t, m, 1, uint32(v), most+place)
		} else {
			wantNoAddress(t, m, 1, uint32(v))
		}
	}
}

func TestAddressInAreasThatThereAreNot(t *testing.T) {
	for _, sizes := range shapes {
		m := mustNew(t, sizes, words(sum(sizes)))
		for _, area := range append(farNumbers, len(sizes), len(sizes)+1, api.MaxAreas, api.MaxAreas+1, sum(sizes)+api.MaxAreas) {
			for _, v := range []uint32{0, 1, most - 1, most, top} {
				wantNoAddress(t, m, area, v)
			}
		}
	}
}

func TestAreaOfAddressesThatThereAreNot(t *testing.T) {
	for _, sizes := range shapes {
		m := mustNew(t, sizes, words(sum(sizes)))
		for _, a := range append(farNumbers, sum(sizes), sum(sizes)+1, api.MaxCells) {
			wantNoArea(t, m, a)
		}
	}
}

func TestNewRefusesMoreSizesThanMayBe(t *testing.T) {
	for n := api.MaxAreas + 1; n <= 2*api.MaxAreas+1; n++ {
		wantRefused(t, make([]int, n), 0)
		ones := slices.Repeat([]int{1}, n)
		wantRefused(t, ones, n)
		wantRefused(t, ones, api.MaxAreas)
	}
	wantRefused(t, make([]int, 1<<16), 0)
	wantRefused(t, append(make([]int, api.MaxAreas), 3), 3)
}

func TestNewRefusesSizesThatMayNotBe(t *testing.T) {
	for _, c := range []struct {
		sizes []int
		n     int
	}{
		{[]int{-1}, 0},
		{[]int{-1}, 1},
		{[]int{most + 1}, most + 1},
		{[]int{most + 1}, most},
		{[]int{api.MaxCells}, api.MaxCells},
		// Together these would be fine.
		{[]int{-1, 1}, 0},
		{[]int{-1, 2}, 1},
		{[]int{2, -1}, 1},
		{[]int{3, -1, 3}, 5},
		{[]int{0, 0, 0, 0, 0, 0, 5, -1}, 4},
		{[]int{most + 1, 0}, most + 1},
		{[]int{0, most + 1}, most + 1},
		{[]int{0, 0, 0, 0, 0, 0, 0, most + 1}, most + 1},
		{[]int{most + 1, -1}, most},
		{[]int{most, most, -1, 1}, api.MaxCells},
		{[]int{most, most, 1, -1}, api.MaxCells},
		// The sums of these go round to what would be fine.
		{[]int{math.MaxInt, math.MaxInt, 2}, 0},
		{[]int{math.MaxInt, math.MaxInt, 5}, 3},
		{[]int{math.MinInt, math.MinInt}, 0},
		{[]int{math.MinInt, math.MinInt, 4}, 4},
	} {
		wantRefused(t, c.sizes, c.n)
	}
	for _, size := range farNumbers {
		for _, n := range []int{0, 1, 2, 3} {
			wantRefused(t, []int{size}, n)
			wantRefused(t, []int{size, 2}, n)
			wantRefused(t, []int{1, size}, n)
		}
	}
}

func TestNewRefusesMoreCellsThanMayBe(t *testing.T) {
	for _, sizes := range [][]int{
		{most, most, 1},
		{1, most, most},
		{most, 1, most},
		{most, most, 0, 0, 0, 0, 0, 1},
		{most, most - 1, 2},
		{1024, 1024, 1024, 1024, 1024, 1024, 1024, 1025},
		{most, most, most},
		{most, most, most, most, most, most, most, most},
	} {
		wantRefused(t, sizes, sum(sizes))
		wantRefused(t, sizes, api.MaxCells)
		wantRefused(t, sizes, 0)
	}
}

func TestNewRefusesOtherThanAsManyWordsAsCells(t *testing.T) {
	for _, sizes := range shapes {
		cells := sum(sizes)
		for _, n := range []int{0, 1, cells - 2, cells - 1, cells + 1, cells + 2, 2*cells + 1, api.MaxCells, api.MaxCells + 1} {
			if n >= 0 && n != cells {
				wantRefused(t, sizes, n)
			}
		}
	}
}

// Which of several wrongs is told can't be seen, for all of them are one error; that none of them hides another can.
func TestNewRefusesWhatIsWrongInSeveralWays(t *testing.T) {
	wantRefused(t, []int{-1, most + 1, 0, 0, 0, 0, 0, 0, 0}, 1)
	wantRefused(t, []int{most, most, most + 1, -1}, 0)
	wantRefused(t, slices.Repeat([]int{most}, 9), 9*most)
	wantRefused(t, slices.Repeat([]int{-1}, 9), 0)
}

func TestWhatIsChangedBehindChangesNoMemory(t *testing.T) {
	for _, room := range []int{0, 4} {
		sizes := append(make([]int, 0, 3+room), 2, 0, 3)
		init := append(make([]uint32, 0, 5+room), words(5)...)
		m := mustNew(t, sizes, init)
		sizes[0], sizes[1], sizes[2] = 0, 4, most
		for i := range init {
			init[i] = 7
		}
		_, _ = append(sizes, 9), append(init, 9)
		wantCells(t, m, words(5))
		wantAreas(t, m, []int{2, 0, 3})
	}
}

func TestNewWritesIntoNeither(t *testing.T) {
	for _, c := range []struct {
		sizes []int
		n     int
	}{
		{[]int{2, 0, 3}, 5},
		{[]int{0, 0}, 0},
		{[]int{most, most}, api.MaxCells},
		{[]int{2, 0, 3}, 4},
		{[]int{2, 0, 3}, 6},
		{[]int{2, -1, 3}, 4},
		{[]int{5, most + 1}, most + 6},
		{[]int{most, most, 1}, api.MaxCells + 1},
		{[]int{1, 1, 1, 1, 1, 1, 1, 1, 1}, 9},
	} {
		sizes, init := slices.Clone(c.sizes), words(c.n)
		if m, e := New(sizes, init); e == api.OK {
			for a := range m.Len() {
				m.Store(a, 7)
			}
		}
		if !slices.Equal(sizes, c.sizes) {
			t.Errorf("sizes %v are %v behind New", c.sizes, sizes)
		}
		if !slices.Equal(init, words(c.n)) {
			t.Errorf("%d words of the sizes %v are others behind New", c.n, c.sizes)
		}
	}
}

// One list may be handed in twice, or be a piece of the other's memory.
func TestMemoriesShareNothingWithOthers(t *testing.T) {
	sizes, init := []int{2, 0, 3}, words(5)
	m, n := mustNew(t, sizes, init), mustNew(t, sizes, init)
	shorter := mustNew(t, sizes[:2], init[3:])
	m.Store(0, 1)
	n.Store(4, 2)
	shorter.Store(1, 3)
	want := words(5)
	wantCells(t, m, []uint32{1, want[1], want[2], want[3], want[4]})
	wantCells(t, n, []uint32{want[0], want[1], want[2], want[3], 2})
	wantCells(t, shorter, []uint32{want[3], 3})
	wantAreas(t, m, sizes)
	wantAreas(t, n, sizes)
	wantAreas(t, shorter, sizes[:2])
}

func TestWordsAreOfTheirOwnMemory(t *testing.T) {
	m := mustNew(t, []int{2, 0, 3}, words(5))
	w := m.Words()
	m.Store(0, 1)
	if !slices.Equal(w, words(5)) {
		t.Errorf("what was told before is %v now", w)
	}
	w[1], w[2] = 8, 9
	want := words(5)
	want[0] = 1
	wantCells(t, m, want)
}

func TestAStoreChangesNoOtherCell(t *testing.T) {
	for _, sizes := range [][]int{{7}, {2, 0, 3}, {0, 0, 4, 0, 0, 1, 0, 0}, {1, 1, 1, 1, 1, 1, 1, 1}, {5, 4, 3, 2, 1, 2, 3, 4}} {
		want := words(sum(sizes))
		m := mustNew(t, sizes, want)
		begin := 0
		for area, size := range sizes {
			for place := range size {
				v := uint32(100*area + place)
				a, ok := m.Address(area, uint32(place)+7*most)
				if !ok {
					t.Fatalf("sizes %v: area %d has no place %d", sizes, area, place)
				}
				m.Store(a, v)
				want[begin+place] = v
				wantCells(t, m, want)
			}
			begin += size
		}
		wantAreas(t, m, sizes)
	}
}

func TestAStoreAtEitherSideOfABorder(t *testing.T) {
	want := words(api.MaxCells)
	m := mustNew(t, []int{most, most}, want)
	for i, at := range []struct {
		area int
		v    uint32
	}{{0, most - 1}, {1, 0}, {0, 0}, {1, most - 1}} {
		a, ok := m.Address(at.area, at.v)
		if !ok || a != at.area*most+int(at.v) {
			t.Fatalf("Address(%d, %d) = %d, %v", at.area, at.v, a, ok)
		}
		m.Store(a, uint32(i))
		want[a] = uint32(i)
		wantCells(t, m, want)
	}
}

// accesses are the calls of layer 2; a memory that had not all of them would not build.
type accesses interface {
	Load(a int) uint32
	Store(a int, v uint32)
	Swap(a int, v uint32) uint32
	Cas(a int, old, new uint32) bool
	Add(a int, k uint32) uint32
	Len() int
	Words() []uint32
}

var _ accesses = (*Mem)(nil)

func TestAllCallsOfLayer2AreItsToo(t *testing.T) {
	m := mustNew(t, []int{1, 0, 2}, []uint32{3, 5, top})
	if was := m.Add(0, top); was != 3 { // layer 2's example
		t.Errorf("Add(0, 2^32 - 1) = %d, want 3", was)
	}
	if was := m.Swap(1, 8); was != 5 {
		t.Errorf("Swap(1, 8) = %d, want 5", was)
	}
	if m.Cas(2, 0, 1) || !m.Cas(2, top, 1) {
		t.Error("Cas asks for another cell than is there")
	}
	wantCells(t, m, []uint32{2, 8, 1})
	m.Store(1, 9)
	wantCells(t, m, []uint32{2, 9, 1})
}

// What is done by the cells themselves is done to the memory, and the other way round.
func TestTheCellsAreEmbedded(t *testing.T) {
	m := mustNew(t, []int{2, 0, 3}, words(5))
	var cells *cell.Cells = m.Cells
	want := words(5)
	cells.Store(3, 7)
	want[3] = 7
	wantCells(t, m, want)
	m.Store(0, 9)
	want[0] = 9
	if cells.Len() != 5 || !slices.Equal(cells.Words(), want) {
		t.Errorf("the cells are %v, want %v", cells.Words(), want)
	}
}

// Nothing is promised of addresses that aren't there but an end, so what is asked here is just that, and that no cell is touched.
func TestAccessesOfAddressesThatThereAreNotEnd(t *testing.T) {
	for _, sizes := range [][]int{nil, {0}, {2, 0, 3}} {
		m := mustNew(t, sizes, words(sum(sizes)))
		for _, a := range append(farNumbers, sum(sizes)) {
			m.Load(a)
			m.Store(a, 1)
			m.Swap(a, 2)
			m.Cas(a, 0, 3)
			m.Add(a, 4)
		}
		wantCells(t, m, words(sum(sizes)))
		wantAreas(t, m, sizes)
	}
}

// doBoth does one access at a memory's cell and at a plain word, and tells whether both answer the same.
func doBoth(d *draws, m *Mem, a int, want []uint32) bool {
	v, w := d.word(), d.word()
	was := want[a]
	switch d.next(5) {
	case 0:
		return m.Load(a) == was
	case 1:
		m.Store(a, v)
		want[a] = v
		return true
	case 2:
		want[a] = v
		return m.Swap(a, v) == was
	case 3:
		if was == v {
			want[a] = w
		}
		return m.Cas(a, v, w) == (was == v)
	default:
		want[a] = uint32((uint64(was) + uint64(v)) % (1 << 32))
		return m.Add(a, v) == was
	}
}

// mixedSizes are of few cells, or of as many as there may be, so that both ends come up.
func mixedSizes(d *draws) []int {
	sizes := make([]int, d.next(api.MaxAreas+1))
	room := api.MaxCells
	for i := range sizes {
		size := d.next(5)
		if d.next(8) == 0 {
			size = most - d.next(3)
		}
		sizes[i] = min(size, room)
		room -= sizes[i]
	}
	return sizes
}

func TestCallsAreWhatIsSaidBehindAnyOthers(t *testing.T) {
	d := &draws{x: 9}
	for range 100 {
		sizes := mixedSizes(d)
		want := make([]uint32, sum(sizes))
		for a := range want {
			want[a] = d.word()
		}
		m := mustNew(t, sizes, want)
		wantCells(t, m, want)
		for i := range 500 {
			area, place := d.next(api.MaxAreas), d.next(5)
			if area >= len(sizes) || place >= sizes[area] {
				wantNoAddress(t, m, area, uint32(place))
				continue
			}
			a := sum(sizes[:area]) + place
			wantAddress(t, m, area, uint32(place)+uint32(d.next(1<<20))*most, a)
			wantArea(t, m, a, area, place)
			if !doBoth(d, m, a, want) {
				t.Fatalf("sizes %v: access %d answers otherwise", sizes, i)
			}
		}
		wantCells(t, m, want)
		wantAreas(t, m, sizes)
	}
}

func TestAskingChangesNothing(t *testing.T) {
	sizes := []int{2, 0, 3}
	m := mustNew(t, sizes, words(5))
	for range 3 {
		for _, n := range append(farNumbers, 0, 1, 2, 3, 4, 5) {
			m.Address(n, uint32(n))
			m.Area(n)
			m.Areas()
		}
		wantCells(t, m, words(5))
		wantAreas(t, m, sizes)
	}
}
