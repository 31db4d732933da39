package ring

import (
	"math"
	"slices"
	"testing"
)

// wantAll asks for all that tells what a ring holds: Len, Room and All.
func wantAll[T comparable](t *testing.T, r *Ring[T], room int, want ...T) {
	t.Helper()
	if r.Len() != len(want) {
		t.Fatalf("Len() = %d, want %d", r.Len(), len(want))
	}
	if r.Room() != room-len(want) {
		t.Fatalf("Room() = %d, want %d", r.Room(), room-len(want))
	}
	if l := r.All(); !slices.Equal(l, want) {
		t.Fatalf("All() = %v, want %v", l, want)
	}
}

func wantPut[T comparable](t *testing.T, r *Ring[T], v T, want bool) {
	t.Helper()
	if ok := r.Put(v); ok != want {
		t.Fatalf("Put(%v) = %v", v, ok)
	}
}

func wantTake[T comparable](t *testing.T, r *Ring[T], want T) {
	t.Helper()
	if v, ok := r.Take(); v != want || !ok {
		t.Fatalf("Take() = %v, %v, want %v, true", v, ok, want)
	}
}

func wantNone[T comparable](t *testing.T, r *Ring[T]) {
	t.Helper()
	var none T
	if v, ok := r.Take(); v != none || ok {
		t.Fatalf("Take() of nothing = %v, %v", v, ok)
	}
}

// P3.1

func TestNewHoldsRoomWithinItsBounds(t *testing.T) {
	for _, c := range []struct{ room, want int }{
		{0, 0}, {1, 1}, {2, 2}, {3, 3}, {100, 100}, {4095, 4095}, {4096, 4096},
		{-1, 0}, {-2, 0}, {-4096, 0}, {4097, 4096}, {8192, 4096},
		// Cut down to 32 bits these would be others.
		{1 << 31, 4096}, {1 << 32, 4096}, {1<<32 + 3, 4096}, {-1 << 32, 0}, {3 - 1<<32, 0},
		{math.MaxInt, 4096}, {math.MinInt, 0},
	} {
		r := New[int](c.room)
		wantAll(t, r, c.want)
		for i := range c.want {
			wantPut(t, r, i, true)
		}
		wantPut(t, r, -1, false)
		if r.Len() != c.want || r.Room() != 0 {
			t.Errorf("New(%d): Len %d, Room %d when it is full", c.room, r.Len(), r.Room())
		}
		for i := range c.want {
			wantTake(t, r, i)
		}
		wantNone(t, r)
		wantAll(t, r, c.want)
	}
}

func TestExampleOfTheChapter(t *testing.T) {
	r := New[int](2)
	wantPut(t, r, 1, true)
	wantPut(t, r, 2, true)
	wantPut(t, r, 3, false)
	wantAll(t, r, 2, 1, 2)
	wantTake(t, r, 1)
	wantPut(t, r, 3, true)
	wantAll(t, r, 2, 2, 3)
}

func TestNoRoomAtAll(t *testing.T) {
	for _, room := range []int{0, -1, math.MinInt} {
		r := New[string](room)
		for range 3 {
			wantPut(t, r, "a", false)
			wantNone(t, r)
			wantAll(t, r, 0)
		}
	}
}

func TestRoomForOne(t *testing.T) {
	r := New[string](1)
	for _, s := range []string{"a", "b", "", "c"} {
		wantNone(t, r)
		wantAll(t, r, 1)
		wantPut(t, r, s, true)
		wantAll(t, r, 1, s)
		wantPut(t, r, "x", false)
		wantAll(t, r, 1, s)
		wantTake(t, r, s)
	}
	wantAll(t, r, 1)
}

func TestMostRoomManyTimesRound(t *testing.T) {
	const room = 4096
	r := New[int](room)
	var want []int
	for i := range room {
		wantPut(t, r, i, true)
		want = append(want, i)
	}
	wantAll(t, r, room, want...)
	for i := room; i < 5*room+7; i++ {
		wantPut(t, r, -1, false)
		wantTake(t, r, i-room)
		wantPut(t, r, i, true)
		want = append(want[1:], i)
		if i%509 == 0 {
			wantAll(t, r, room, want...)
		}
	}
	wantAll(t, r, room, want...)
	for i := range room {
		wantTake(t, r, want[i])
	}
	wantNone(t, r)
	wantAll(t, r, room)
}

func TestPutWithoutRoomChangesNothing(t *testing.T) {
	r := New[int](3)
	for i := range 3 {
		wantPut(t, r, i, true)
	}
	for range 5 {
		wantPut(t, r, 9, false)
		wantAll(t, r, 3, 0, 1, 2)
	}
	wantTake(t, r, 0)
	wantAll(t, r, 3, 1, 2)
}

func TestTakeOfNothingChangesNothing(t *testing.T) {
	r := New[int](3)
	for range 5 {
		wantNone(t, r)
		wantAll(t, r, 3)
	}
	wantPut(t, r, 7, true)
	wantTake(t, r, 7)
	wantNone(t, r)
	wantPut(t, r, 8, true)
	wantAll(t, r, 3, 8)
}

// A value that is the type's zero one is a value like others: true tells it from none.
func TestZeroValuesAreValues(t *testing.T) {
	r := New[int](4)
	for _, v := range []int{0, 0, 5, 0} {
		wantPut(t, r, v, true)
	}
	wantAll(t, r, 4, 0, 0, 5, 0)
	for _, v := range []int{0, 0, 5, 0} {
		wantTake(t, r, v)
	}
	wantNone(t, r)
}

// What lies first isn't in the first place here when the second value, and the fourth, needs more places.
func TestOrderHoldsWhereverTheFirstLies(t *testing.T) {
	for room := 1; room <= 9; room++ {
		for ahead := range 2 * room {
			r := New[int](room)
			for i := range ahead {
				wantPut(t, r, i, true)
				wantTake(t, r, i)
			}
			var want []int
			for i := range room {
				wantPut(t, r, 100+i, true)
				want = append(want, 100+i)
				wantAll(t, r, room, want...)
			}
			wantPut(t, r, 200, false)
			for len(want) > 0 {
				wantTake(t, r, want[0])
				want = want[1:]
				wantAll(t, r, room, want...)
			}
		}
	}
}

func TestMorePlacesAreNeededWhileValuesGoRound(t *testing.T) {
	r := New[int](7)
	for i := range 4 {
		wantPut(t, r, i, true)
	}
	wantTake(t, r, 0)
	wantTake(t, r, 1)
	wantTake(t, r, 2)
	for i := 4; i < 10; i++ {
		wantPut(t, r, i, true)
	}
	wantAll(t, r, 7, 3, 4, 5, 6, 7, 8, 9)
	wantPut(t, r, 10, false)
}

// draws gives numbers from a rule of its own, so that a run is the same each time.
type draws struct{ x uint64 }

func (d *draws) next(n int) int {
	d.x = d.x*6364136223846793005 + 1442695040888963407
	return int(d.x >> 33 % uint64(n))
}

// runBoth puts and takes at a ring and at a plain list, for long stretches rather the one, then rather the other, and holds both against each other behind each call.
func runBoth[T comparable](t *testing.T, room int, value func(i int) T) {
	t.Helper()
	d := &draws{x: uint64(room)}
	r := New[T](room)
	var want []T
	for i := range 4000 {
		puts := 1 + i/(2*room+5)%2*2
		if d.next(4) < puts {
			v := value(i)
			ok := len(want) < room
			wantPut(t, r, v, ok)
			if ok {
				want = append(want, v)
			}
		} else if len(want) == 0 {
			wantNone(t, r)
		} else {
			wantTake(t, r, want[0])
			want = want[1:]
		}
		wantAll(t, r, room, want...)
	}
}

type pair struct {
	name string
	at   [2]int
}

func TestCallsAreWhatIsSaidBehindAnyOthers(t *testing.T) {
	for _, room := range []int{1, 2, 3, 4, 5, 8, 16, 31, 100} {
		runBoth(t, room, func(i int) int { return i - 2000 })
		runBoth(t, room, func(i int) uint32 { return math.MaxUint32 - uint32(i) })
		runBoth(t, room, func(i int) byte { return byte(i) })
		runBoth(t, room, func(i int) bool { return i%3 == 0 })
		runBoth(t, room, func(i int) string { return string(rune('a'+i%26)) + string(rune(0x3b1+i)) })
		runBoth(t, room, func(i int) [3]int { return [3]int{i, -i, i * i} })
		runBoth(t, room, func(i int) pair { return pair{string(rune('a' + i%26)), [2]int{i, -i}} })
		runBoth(t, room, func(i int) *int { return &i })
		runBoth(t, room, func(i int) any {
			return []any{nil, i, string(rune('a' + i%26)), pair{at: [2]int{i}}}[i%4]
		})
		runBoth(t, room, func(i int) struct{} { return struct{}{} })
	}
}

func TestValuesThatCanNotBeCompared(t *testing.T) {
	lists := New[[]int](2)
	if !lists.Put([]int{1, 2}) || !lists.Put(nil) || lists.Put([]int{3}) {
		t.Error("Put of a list answers otherwise")
	}
	if l, ok := lists.Take(); !ok || !slices.Equal(l, []int{1, 2}) {
		t.Errorf("Take() = %v, %v", l, ok)
	}
	if l, ok := lists.Take(); !ok || l != nil {
		t.Errorf("Take() = %v, %v", l, ok)
	}
	functions := New[func() int](2)
	if !functions.Put(func() int { return 1 }) || !functions.Put(func() int { return 2 }) {
		t.Error("Put of a function answers otherwise")
	}
	if f, ok := functions.Take(); !ok || f() != 1 {
		t.Error("Take of the first function answers otherwise")
	}
	if f, ok := functions.Take(); !ok || f() != 2 {
		t.Error("Take of the second function answers otherwise")
	}
	if f, ok := functions.Take(); ok || f != nil {
		t.Error("Take of no function answers one")
	}
}

// NaN is unlike itself, so that a ring that held values against each other would lose it.
func TestValuesUnlikeThemselves(t *testing.T) {
	r := New[float64](2)
	r.Put(math.NaN())
	r.Put(math.Copysign(0, -1))
	if v, ok := r.Take(); !ok || !math.IsNaN(v) {
		t.Errorf("Take() = %v, %v", v, ok)
	}
	if v, ok := r.Take(); !ok || v != 0 || !math.Signbit(v) {
		t.Errorf("Take() = %v, %v", v, ok)
	}
}

func TestRingsOfRings(t *testing.T) {
	r := New[*Ring[int]](2)
	inner := New[int](1)
	wantPut(t, r, inner, true)
	wantPut(t, inner, 5, true)
	wantTake(t, r, inner)
	wantAll(t, inner, 1, 5)
	wantNone(t, r)
}

// With a place for each value from the start, this ring would have 4 GiB.
func TestGreatValuesInTheMostRoom(t *testing.T) {
	type great [1 << 20]byte
	s := New[great](4096)
	if s.Len() != 0 || s.Room() != 4096 || len(s.All()) != 0 {
		t.Fatalf("Len %d, Room %d", s.Len(), s.Room())
	}
	var v great
	for i := range 3 {
		v[len(v)-1] = byte(i + 1)
		if !s.Put(v) {
			t.Fatalf("Put of value %d is false", i)
		}
	}
	for i := range 3 {
		if v, ok := s.Take(); !ok || v[0] != 0 || v[len(v)-1] != byte(i+1) {
			t.Fatalf("Take of value %d: %d, %v", i, v[len(v)-1], ok)
		}
	}
	if s.Len() != 0 || s.Room() != 4096 {
		t.Errorf("Len %d, Room %d", s.Len(), s.Room())
	}
	if len(s.places) > 4 {
		t.Errorf("%d places for three values", len(s.places))
	}
}

func TestAllStaysWhatItWasAsValuesComeAndGo(t *testing.T) {
	r := New[int](3)
	none := r.All()
	wantPut(t, r, 1, true)
	wantPut(t, r, 2, true)
	two := r.All()
	wantPut(t, r, 3, true)
	three := r.All()
	wantTake(t, r, 1)
	wantPut(t, r, 4, true)
	round := r.All()
	for range 3 {
		r.Take()
	}
	for i := range 3 {
		wantPut(t, r, 7+i, true)
	}
	for _, c := range []struct{ told, want []int }{
		{none, nil}, {two, []int{1, 2}}, {three, []int{1, 2, 3}}, {round, []int{2, 3, 4}},
	} {
		if !slices.Equal(c.told, c.want) {
			t.Errorf("what was told before as %v is %v now", c.want, c.told)
		}
	}
	wantAll(t, r, 3, 7, 8, 9)
}

func TestChangingWhatAllToldChangesNothing(t *testing.T) {
	r := New[pair](4)
	a, b, c := pair{name: "a"}, pair{name: "b"}, pair{name: "c", at: [2]int{1, 2}}
	for _, v := range []pair{a, b, c} {
		wantPut(t, r, v, true)
	}
	told, other := r.All(), r.All()
	told[0], told[1].name, told[2].at[1] = c, "x", 9
	_ = append(told, a, b, c)
	clear(told)
	if !slices.Equal(other, []pair{a, b, c}) {
		t.Errorf("what was told as well is %v now", other)
	}
	wantAll(t, r, 4, a, b, c)
	wantPut(t, r, a, true)
	wantAll(t, r, 4, a, b, c, a)
}

func TestAskingChangesNothing(t *testing.T) {
	r := New[string](3)
	wantPut(t, r, "a", true)
	wantPut(t, r, "b", true)
	for range 4 {
		wantAll(t, r, 3, "a", "b")
	}
	wantTake(t, r, "a")
}

func TestRingsShareNothingWithOthers(t *testing.T) {
	r, s := New[int](2), New[int](2)
	wantPut(t, r, 1, true)
	wantPut(t, s, 2, true)
	wantPut(t, s, 3, true)
	wantTake(t, s, 2)
	wantAll(t, r, 2, 1)
	wantAll(t, s, 2, 3)
}

// What is kept is no more than is needed: a value that is out isn't held any longer.
func TestWhatIsOutIsNotKept(t *testing.T) {
	r := New[*int](5)
	for i := range 23 {
		r.Put(&i)
		if i%3 > 0 {
			r.Take()
		}
		kept := 0
		for _, p := range r.places {
			if p != nil {
				kept++
			}
		}
		if kept != r.Len() || len(r.places) > 5 {
			t.Fatalf("behind %d: %d values, but %d are kept in %d places", i, r.Len(), kept, len(r.places))
		}
	}
}
