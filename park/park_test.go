package park

import (
	"fmt"
	"math"
	"slices"
	"testing"
	"testing/synctest"
	"time"

	"ropeline/api"
)

// farNumbers are no numbers of threads, nor how many, nor budgets; cut down to 32 bits, to 16, to 8 or to 6, many of them would be fine.
var farNumbers = []int{-1, -2, -64, -1000, 1001, 1024, 4096, 1<<16 + 1, 1 << 31, 1 << 32, 1<<32 + 1, 1<<32 + 64, -1 << 32, 1 - 1<<32, math.MaxInt, math.MinInt}

// addresses are some that are unlike, though many of them are alike when they are cut down.
var addresses = []int{0, 1, -1, 2, 63, 64, 255, 256, 8191, 8192, 1 << 16, 1 << 31, 1<<31 - 1, -1 << 31, 1 << 32, 1<<32 + 1, -1 << 32, math.MaxInt, math.MinInt}

// sleeping is a thread, told plainly.
type sleeping struct {
	looks  int
	parked bool
	at     int
	permit bool
}

// model is waits, told plainly.
type model struct {
	spin    int
	threads []sleeping
}

func (m *model) look(t, addr int) bool {
	s := &m.threads[t]
	s.looks++
	if s.looks == m.spin {
		*s = sleeping{parked: true, at: addr}
	}
	return s.parked
}

func (m *model) wrote(addr, by int) []int {
	var given []int
	for t := range m.threads {
		s := &m.threads[t]
		if t != by && s.parked && s.at == addr && !s.permit {
			s.permit = true
			given = append(given, t)
		}
	}
	return given
}

func (m *model) wake(t int) bool {
	s := &m.threads[t]
	if !s.parked || s.permit {
		return false
	}
	s.permit = true
	return true
}

func (m *model) resume(t int) bool {
	s := &m.threads[t]
	if s.parked && !s.permit {
		return false
	}
	if s.parked {
		*s = sleeping{}
	}
	return true
}

func (m *model) sleepsAt(t int) (int, bool) {
	if s := m.threads[t]; s.parked && !s.permit {
		return s.at, true
	}
	return 0, false
}

// both is waits, and the model of them, of which each call is held against the other's.
type both struct {
	t *testing.T
	w *Waits
	m *model
	// ran is what was called, for a failure to tell.
	ran []string
}

func started(t *testing.T, n, spin int) *both {
	t.Helper()
	w, e := New(n, spin)
	if w == nil || e != api.OK {
		t.Fatalf("New(%d, %d) = %v, error %d", n, spin, w, e)
	}
	return &both{t: t, w: w, m: &model{spin: spin, threads: make([]sleeping, n)}}
}

// note notes a call; only the last ones are kept, for a run may be long.
func (b *both) note(format string, args ...int) {
	list := make([]any, len(args))
	for i, a := range args {
		list[i] = a
	}
	if len(b.ran) > 12 {
		b.ran = append([]string{".."}, b.ran[4:]...)
	}
	b.ran = append(b.ran, fmt.Sprintf(format, list...))
}

func (b *both) fail(got, want any) {
	b.t.Helper()
	b.t.Fatalf("%d threads, budget %d: behind %v: answers %v, want %v", len(b.m.threads), b.m.spin, b.ran, got, want)
}

func (b *both) look(t, addr int) bool {
	b.t.Helper()
	b.note("Look(%d, %d)", t, addr)
	got, want := b.w.Look(t, addr), b.m.look(t, addr)
	if got != want {
		b.fail(got, want)
	}
	return got
}

func (b *both) moved(t int) {
	b.t.Helper()
	b.note("Moved(%d)", t)
	b.w.Moved(t)
	b.m.threads[t].looks = 0
}

func (b *both) wrote(addr, by int) []int {
	b.t.Helper()
	b.note("Wrote(%d, %d)", addr, by)
	got, want := b.w.Wrote(addr, by), b.m.wrote(addr, by)
	if !slices.Equal(got, want) {
		b.fail(got, want)
	}
	return got
}

func (b *both) wake(t int) bool {
	b.t.Helper()
	b.note("Wake(%d)", t)
	got, want := b.w.Wake(t), b.m.wake(t)
	if got != want {
		b.fail(got, want)
	}
	return got
}

func (b *both) resume(t int) bool {
	b.t.Helper()
	b.note("Resume(%d)", t)
	got, want := b.w.Resume(t), b.m.resume(t)
	if got != want {
		b.fail(got, want)
	}
	return got
}

// ask asks for all that can be seen without a change.
func (b *both) ask() {
	b.t.Helper()
	for t, s := range b.m.threads {
		if got := b.w.Looks(t); got != s.looks {
			b.ran = append(b.ran, fmt.Sprintf("Looks(%d)", t))
			b.fail(got, s.looks)
		}
		wantAt, want := b.m.sleepsAt(t)
		if at, ok := b.w.Parked(t); at != wantAt || ok != want {
			b.ran = append(b.ran, fmt.Sprintf("Parked(%d)", t))
			b.fail([]any{at, ok}, []any{wantAt, want})
		}
	}
}

// park lets a thread look in vain as often as it may, and asks for all behind each look.
func (b *both) park(t, addr int) {
	b.t.Helper()
	for !b.m.threads[t].parked {
		b.look(t, addr)
		b.ask()
	}
}

func wantList(t *testing.T, what string, got []int, want ...int) {
	t.Helper()
	if !slices.Equal(got, want) {
		t.Errorf("%s: answers %v, want %v", what, got, want)
	}
}

func wantTrue(t *testing.T, what string, got bool) {
	t.Helper()
	if !got {
		t.Errorf("%s: is false", what)
	}
}

func wantFalse(t *testing.T, what string, got bool) {
	t.Helper()
	if got {
		t.Errorf("%s: is true", what)
	}
}

// draws gives numbers from a rule of its own, so that a run is the same each time.
type draws struct{ x uint64 }

func (d *draws) next(n int) int {
	d.x = d.x*6364136223846793005 + 1442695040888963407
	return int(d.x >> 33 % uint64(n))
}

// Nobody waits: ahead of the others, which would hang for long if a call waited.

// A bubble's clock stands still while somebody in it runs, and goes on only when all wait; if they wait for ever, the test fails at once.
func TestNobodyWaits(t *testing.T) {
	for _, n := range []int{1, 2, 64} {
		for _, spin := range []int{1, 3} {
			synctest.Test(t, func(t *testing.T) {
				start := time.Now()
				callAll(started(t, n, spin))
				if waited := time.Since(start); waited != 0 {
					t.Errorf("%d threads, budget %d: a call waited for %v", n, spin, waited)
				}
			})
		}
	}
}

// callAll does each call, of those who are awake, parked, and have a permit, more than once where it may be.
func callAll(b *both) {
	last := len(b.m.threads) - 1
	for range 3 {
		for _, t := range []int{0, last} {
			b.resume(t)
			b.wake(t)
			b.park(t, 5)
			b.resume(t)
			b.resume(t)
		}
		for range 3 {
			b.wrote(5, last)
			b.wake(0)
			b.wake(last)
			b.ask()
		}
		for _, t := range []int{0, last} {
			b.resume(t)
			b.resume(t)
			b.moved(t)
			b.ask()
		}
	}
}

// P11.1: New

func TestNewRefusesWhatMayNotBe(t *testing.T) {
	wrongThreads := append([]int{0, 65, 66, 100, 128, 256, 257}, farNumbers...)
	wrongSpins := append([]int{0, 1001, 1002, 2000}, farNumbers...)
	for _, n := range wrongThreads {
		for _, spin := range append([]int{1, 2, 1000}, wrongSpins...) {
			if w, e := New(n, spin); w != nil || e != api.ErrArg {
				t.Errorf("New(%d, %d) = %v, error %d, want none, error %d", n, spin, w, e, api.ErrArg)
			}
		}
	}
	for _, n := range []int{1, 2, 63, 64} {
		for _, spin := range wrongSpins {
			if w, e := New(n, spin); w != nil || e != api.ErrArg {
				t.Errorf("New(%d, %d) = %v, error %d, want none, error %d", n, spin, w, e, api.ErrArg)
			}
		}
	}
}

func TestAtFirstAllAreAwake(t *testing.T) {
	for n := 1; n <= api.MaxThreads; n++ {
		for _, spin := range []int{1, 2, 64, 65, 999, 1000} {
			b := started(t, n, spin)
			b.ask()
			for k := range n {
				wantFalse(t, "Wake of one who is awake", b.wake(k))
				wantTrue(t, "Resume of one who is awake", b.resume(k))
			}
			wantList(t, "Wrote when nobody is parked", b.wrote(0, 0))
			b.ask()
		}
	}
}

// P11.1: the budget

func TestExampleOfTheChapter(t *testing.T) {
	for _, addr := range addresses {
		for k := range 3 {
			b := started(t, 3, 2)
			wantFalse(t, "the first look", b.look(k, addr))
			wantTrue(t, "the second look", b.look(k, addr))
			wantFalse(t, "Resume of one who is parked", b.resume(k))
			wantList(t, "Wrote of that address", b.wrote(addr, (k+1)%3), k)
			wantTrue(t, "Resume of one who has a permit", b.resume(k))
			b.ask()
		}
	}
}

// Of each budget, the last look parks, and none ahead of it; and so again behind Resume.
func TestTheLastLookOfTheBudgetParks(t *testing.T) {
	for spin := 1; spin <= api.MaxSpin; spin++ {
		b := started(t, 2, spin)
		for range 2 {
			for had := range spin {
				if got := b.w.Looks(1); got != had {
					t.Fatalf("budget %d: Looks = %d behind %d", spin, got, had)
				}
				if got := b.look(1, 7); got != (had == spin-1) {
					t.Fatalf("budget %d: the look behind %d others parks: %v", spin, had, got)
				}
			}
			b.ask()
			wantFalse(t, "Resume of one who is parked", b.resume(1))
			wantTrue(t, "Wake of one who is parked", b.wake(1))
			b.ask()
			wantTrue(t, "Resume of one who has a permit", b.resume(1))
			b.ask()
		}
	}
}

// Behind Moved, however many looks there were, as many are needed as at first.
func TestLooksBeginAnewBehindMoved(t *testing.T) {
	for _, spin := range []int{1, 2, 3, 10, 1000} {
		for _, had := range []int{0, 1, 2, 8, 9, 500, 998, 999} {
			if had >= spin {
				continue
			}
			b := started(t, 2, spin)
			for range had {
				wantFalse(t, "a look within the budget", b.look(0, 3))
			}
			b.moved(0)
			b.ask()
			b.moved(0)
			b.ask()
			for range spin - 1 {
				wantFalse(t, "a look within the budget", b.look(0, 3))
			}
			b.ask()
			wantTrue(t, "the last look of the budget", b.look(0, 3))
			b.ask()
		}
	}
}

// Moved of one thread is nothing to another one's looks.
func TestEachHasItsOwnLooks(t *testing.T) {
	b := started(t, 4, 3)
	for k := range 4 {
		for range k {
			b.look(k, 1)
		}
		b.ask()
	}
	b.moved(1)
	b.ask()
	b.resume(3)
	wantFalse(t, "Resume of one who is parked", b.resume(3))
	b.ask()
	wantTrue(t, "the third look", b.look(2, 1))
	wantFalse(t, "the first look behind Moved", b.look(1, 1))
	b.ask()
}

// Resume and Wake of one who is awake leave its looks as they are, and so does Wrote of where it looks.
func TestLooksGoOnBehindWhatIsNoMove(t *testing.T) {
	b := started(t, 2, 4)
	for range 3 {
		b.look(0, 9)
		wantTrue(t, "Resume of one who is awake", b.resume(0))
		wantFalse(t, "Wake of one who is awake", b.wake(0))
		wantList(t, "Wrote of where an awake one looks", b.wrote(9, 1))
		wantList(t, "Wrote of one who looks", b.wrote(9, 0))
		b.ask()
	}
	wantTrue(t, "the fourth look", b.look(0, 9))
	wantFalse(t, "Resume, for the Wake ahead gave nothing", b.resume(0))
	b.ask()
}

// Looks at several addresses are counted together; it is parked where it looked last.
func TestParkedWhereItLookedLast(t *testing.T) {
	for _, first := range addresses {
		for _, last := range addresses {
			b := started(t, 2, 3)
			b.look(1, first)
			b.look(1, first)
			wantTrue(t, "the third look", b.look(1, last))
			b.ask()
			if first != last {
				wantList(t, "Wrote of where it looked first", b.wrote(first, 0))
			}
			b.ask()
			wantList(t, "Wrote of where it looked last", b.wrote(last, 0), 1)
			b.ask()
		}
	}
}

// It is parked where it looks now, not where it was parked the time before.
func TestParkedElsewhereTheNextTime(t *testing.T) {
	b := started(t, 2, 1)
	for _, addr := range addresses {
		wantTrue(t, "a look with a budget of 1", b.look(0, addr))
		b.ask()
		for _, other := range addresses {
			if other != addr {
				wantList(t, "Wrote of another address", b.wrote(other, 1))
			}
		}
		wantList(t, "Wrote of the address", b.wrote(addr, 1), 0)
		b.ask()
		wantTrue(t, "Resume of one who has a permit", b.resume(0))
		b.ask()
	}
}

func TestAddressZeroIsOneAsOthersAre(t *testing.T) {
	b := started(t, 3, 1)
	wantTrue(t, "a look with a budget of 1", b.look(1, 0))
	if at, ok := b.w.Parked(1); at != 0 || !ok {
		t.Errorf("Parked = %d, %v, want 0, true", at, ok)
	}
	if at, ok := b.w.Parked(0); at != 0 || ok {
		t.Errorf("Parked of one who is awake = %d, %v, want 0, false", at, ok)
	}
	wantFalse(t, "Resume of one who is parked at 0", b.resume(1))
	wantList(t, "Wrote of another address", b.wrote(1, 0))
	// Those who are awake aren't at 0.
	wantList(t, "Wrote of 0", b.wrote(0, 2), 1)
	b.ask()
	wantTrue(t, "Resume of one who has a permit", b.resume(1))
	wantList(t, "Wrote of 0, where nobody is any more", b.wrote(0, 2))
	b.ask()
}

// P11.1: Wrote

// All threads are parked, by twos, at 32 addresses, the later ones first.
func TestWroteGivesThoseWhoAreParkedThere(t *testing.T) {
	b := started(t, 64, 2)
	for k := 63; k >= 0; k-- {
		b.park(k, k%32)
	}
	for addr := range 32 {
		wantList(t, "Wrote", b.wrote(addr, (addr+1)%32), addr, addr+32)
		b.ask()
		wantList(t, "Wrote again", b.wrote(addr, (addr+1)%32))
		b.ask()
	}
}

func TestWroteToldRisingButBy(t *testing.T) {
	for _, n := range []int{1, 2, 3, 10, 63, 64} {
		for by := range n {
			b := started(t, n, 1)
			// 13 shares no divisor with any n here, so all are parked, in an order that neither rises nor falls.
			for i := range n {
				b.park(i*13%n, 12)
			}
			var others []int
			for k := range n {
				if k != by {
					others = append(others, k)
				}
			}
			wantList(t, "Wrote by one who is parked there", b.wrote(12, by), others...)
			b.ask()
			wantList(t, "Wrote again, by the same one", b.wrote(12, by))
			if n > 1 {
				wantList(t, "Wrote again, by another one", b.wrote(12, (by+1)%n), by)
			}
			b.ask()
		}
	}
}

func TestWroteByWhoIsAwakeParkedThereAndElsewhere(t *testing.T) {
	parked := func() *both {
		b := started(t, 5, 2)
		b.park(4, 30)
		b.park(1, 30)
		b.park(2, 31)
		b.look(3, 30)
		return b
	}
	wantList(t, "by one who is awake", parked().wrote(30, 0), 1, 4)
	wantList(t, "by one who is awake, and looked there", parked().wrote(30, 3), 1, 4)
	wantList(t, "by one who is parked there", parked().wrote(30, 1), 4)
	wantList(t, "by the other one who is parked there", parked().wrote(30, 4), 1)
	wantList(t, "by one who is parked elsewhere", parked().wrote(30, 2), 1, 4)
	wantList(t, "elsewhere, by one who is parked here", parked().wrote(31, 4), 2)
	wantList(t, "elsewhere, by the one who is parked there", parked().wrote(31, 2))
	wantList(t, "where nobody is", parked().wrote(29, 0))
	for by := range 5 {
		b := parked()
		b.wrote(30, by)
		b.ask()
		for k := range 5 {
			b.resume(k)
			b.ask()
		}
	}
}

// by, who has a permit and is parked there, keeps it.
func TestWroteTakesNoPermitAway(t *testing.T) {
	b := started(t, 3, 1)
	b.park(0, 2)
	b.park(1, 2)
	b.wake(0)
	wantList(t, "Wrote by one who has a permit", b.wrote(2, 0), 1)
	b.ask()
	wantTrue(t, "Resume of by", b.resume(0))
	wantTrue(t, "Resume of the other one", b.resume(1))
	b.ask()
}

// However often it is woken, it has one permit: the next time that it is parked, it has none.
func TestWhoHasAPermitIsNotGivenAnother(t *testing.T) {
	for times := 1; times < 6; times++ {
		b := started(t, 3, 2)
		b.park(1, 6)
		for i := range 2 * times {
			if got := len(b.wrote(6, 0)); got > 0 != (i == 0) {
				t.Errorf("Wrote behind %d others: %d are told", i, got)
			}
			wantFalse(t, "Wake of one who has a permit", b.wake(1))
			b.ask()
		}
		wantTrue(t, "Resume of one who has a permit", b.resume(1))
		wantTrue(t, "Resume of one who is awake", b.resume(1))
		b.park(1, 6)
		wantFalse(t, "Resume of one who has no permit any more", b.resume(1))
		wantList(t, "Wrote", b.wrote(6, 0), 1)
		b.ask()
	}
}

// A write ahead of the last look is forgotten: no permit waits for one who is awake.
func TestAWriteAheadOfParkingIsForgotten(t *testing.T) {
	b := started(t, 2, 2)
	b.look(0, 4)
	wantList(t, "Wrote of where it looks", b.wrote(4, 1))
	wantFalse(t, "Wake of one who is awake", b.wake(0))
	wantTrue(t, "the second look", b.look(0, 4))
	b.ask()
	wantFalse(t, "Resume of one who is parked", b.resume(0))
	wantList(t, "Wrote", b.wrote(4, 1), 0)
}

func TestAnswersOfWroteShareNothing(t *testing.T) {
	b := started(t, 6, 1)
	for k := range 6 {
		b.park(k, k%2)
	}
	evens := b.wrote(0, 1)
	odds := b.wrote(1, 0)
	for _, l := range [][]int{evens, odds} {
		for i := range l[:cap(l)] {
			l[:cap(l)][i] = -7 - i
		}
	}
	wantList(t, "the one answer", evens, -7, -8, -9)
	wantList(t, "the other answer", odds, -7, -8, -9)
	b.ask()
	for k := range 6 {
		wantTrue(t, "Resume of one who has a permit", b.resume(k))
		b.park(k, 3)
	}
	all := b.wrote(3, 2)
	wantList(t, "Wrote", all, 0, 1, 3, 4, 5)
	clear(all)
	b.wrote(3, 0)
	b.ask()
	wantList(t, "an answer behind another one", all, 0, 0, 0, 0, 0)
}

// P11.1: Wake, Resume, Parked, Looks

func TestWake(t *testing.T) {
	b := started(t, 3, 2)
	wantFalse(t, "Wake of one who is awake", b.wake(1))
	b.look(1, 8)
	wantFalse(t, "Wake of one who is awake, and looked", b.wake(1))
	b.ask()
	b.park(1, 8)
	wantFalse(t, "Wake of another one", b.wake(0))
	wantFalse(t, "Resume, for another one was woken", b.resume(1))
	wantTrue(t, "Wake of one who is parked", b.wake(1))
	b.ask()
	wantFalse(t, "Wake of one who has a permit", b.wake(1))
	b.ask()
	wantList(t, "Wrote, when it has a permit", b.wrote(8, 0))
	wantTrue(t, "Resume of one who has a permit", b.resume(1))
	b.ask()
	wantFalse(t, "Wake of one who goes on", b.wake(1))
}

func TestResume(t *testing.T) {
	b := started(t, 3, 2)
	for range 3 {
		wantTrue(t, "Resume of one who is awake", b.resume(2))
	}
	b.park(2, 8)
	for range 3 {
		wantFalse(t, "Resume of one who is parked", b.resume(2))
		wantTrue(t, "Resume of another one", b.resume(1))
		b.ask()
	}
	b.wrote(8, 0)
	wantTrue(t, "Resume of one who has a permit", b.resume(2))
	for range 3 {
		wantTrue(t, "Resume of one who goes on", b.resume(2))
		b.ask()
	}
}

func TestParkedAndLooks(t *testing.T) {
	want := func(b *both, what string, at int, parked bool, looks int) {
		t.Helper()
		if a, ok := b.w.Parked(1); a != at || ok != parked {
			t.Errorf("%s: Parked = %d, %v, want %d, %v", what, a, ok, at, parked)
		}
		if l := b.w.Looks(1); l != looks {
			t.Errorf("%s: Looks = %d, want %d", what, l, looks)
		}
	}
	for _, addr := range addresses {
		b := started(t, 2, 3)
		want(b, "awake", 0, false, 0)
		b.look(1, addr)
		want(b, "awake", 0, false, 1)
		b.look(1, addr)
		want(b, "awake", 0, false, 2)
		b.look(1, addr)
		want(b, "parked", addr, true, 0)
		b.resume(1)
		want(b, "parked", addr, true, 0)
		b.wake(1)
		want(b, "parked, with a permit", 0, false, 0)
		b.resume(1)
		want(b, "goes on", 0, false, 0)
		b.look(1, addr)
		want(b, "looks again", 0, false, 1)
		b.moved(1)
		want(b, "moved", 0, false, 0)
	}
}

// P11.1: behind any calls

// call does the call of a number, of the threads there are and of the addresses 0 and 1; false: the chapter leaves it out, so it isn't done.
func (b *both) call(number int) bool {
	t, kind := number/7, number%7
	if kind < 3 && b.m.threads[t].parked {
		return false
	}
	switch kind {
	case 0, 1:
		b.look(t, kind)
	case 2:
		b.moved(t)
	case 3, 4:
		b.wrote(kind-3, t)
	case 5:
		b.wake(t)
	case 6:
		b.resume(t)
	}
	return true
}

// calls is how many numbers of calls there are.
func (b *both) calls() int { return 7 * len(b.m.threads) }

// lay brings a thread into its state of a number: so many looks; or parked at 0 or at 1, without a permit, or with it.
func (b *both) lay(t, state int) {
	if state < b.m.spin {
		for range state {
			b.look(t, 0)
		}
		return
	}
	b.park(t, (state-b.m.spin)%2)
	if state >= b.m.spin+2 {
		b.wake(t)
	}
}

// states is how many numbers of states there are.
func (b *both) states() int { return b.m.spin + 4 }

// laidOut is threads of which each is in a state: the digits of a number.
func laidOut(t *testing.T, n, spin, number int) (b *both, more bool) {
	b = started(t, n, spin)
	for k := range n {
		b.lay(k, number%b.states())
		number /= b.states()
	}
	return b, number == 0
}

// Each run of calls, from each way in which threads may stand.
func TestEachCallBehindEachOther(t *testing.T) {
	for _, size := range []struct{ n, spin, calls int }{{1, 1, 5}, {1, 3, 5}, {2, 1, 3}, {2, 2, 3}, {3, 2, 2}} {
		for number := 0; ; number++ {
			b, more := laidOut(t, size.n, size.spin, number)
			if !more {
				break
			}
			b.ask()
			runs := 1
			for range size.calls {
				runs *= b.calls()
			}
			for run := range runs {
				b, _ := laidOut(t, size.n, size.spin, number)
				for range size.calls {
					if !b.call(run % b.calls()) {
						break
					}
					b.ask()
					run /= b.calls()
				}
			}
		}
	}
}

// mixed does a call that is drawn, and no call that the chapter leaves out.
func mixed(b *both, d *draws, wakes int) {
	t, addr := d.next(len(b.m.threads)), addresses[d.next(4)]
	s := b.m.threads[t]
	switch kind := d.next(10 + wakes); {
	case kind < 8 && !s.parked:
		b.look(t, addr)
	case kind == 8 && !s.parked:
		b.moved(t)
	case kind < 10:
		b.resume(t)
	case kind%3 == 0:
		b.wake(t)
	default:
		b.wrote(addr, t)
	}
}

func TestLongMixedRuns(t *testing.T) {
	for _, n := range []int{1, 2, 3, 5, 31, 32, 33, 63, 64} {
		for _, spin := range []int{1, 2, 3, 7, 40, 1000} {
			d := &draws{x: uint64(1000*n + spin)}
			b := started(t, n, spin)
			for i := range 5000 {
				// For long stretches hardly anybody is woken, so that nearly all are parked.
				mixed(b, d, 8*(i/500%2))
				b.ask()
			}
		}
	}
}

// What was asked on the way makes no difference.
func TestAskingChangesNothing(t *testing.T) {
	for _, every := range []int{1, 50, 2000} {
		d := &draws{x: 11}
		b := started(t, 6, 3)
		for i := range 2000 {
			mixed(b, d, 6)
			for range 3 {
				if i%every == every-1 {
					b.ask()
				}
			}
		}
	}
}

func TestWaitsMadeTwiceShareNothing(t *testing.T) {
	b, c := started(t, 3, 2), started(t, 3, 2)
	d := &draws{x: 12}
	for range 2000 {
		mixed(b, d, 4)
		c.ask()
		mixed(c, d, 4)
		b.ask()
	}
	started(t, 3, 2).ask()
	b.ask()
	c.ask()
}

// Of these the chapter promises nothing but an end.

// Threads that there aren't are nothing to those that there are.
func TestThreadsThatThereAreNot(t *testing.T) {
	for _, n := range []int{1, 2, 63, 64} {
		b := started(t, n, 2)
		b.look(n-1, 0)
		b.park(0, 0)
		for _, k := range append([]int{n, n + 1, -n, 65, 256}, farNumbers...) {
			for _, addr := range addresses {
				for range 3 {
					b.w.Look(k, addr)
				}
				b.w.Parked(k)
			}
			b.w.Moved(k)
			b.w.Looks(k)
			b.w.Wake(k)
			b.w.Resume(k)
			b.ask()
		}
	}
}

// Nobody is left out who is parked there, if by is no thread.
func TestWroteByNoThread(t *testing.T) {
	for _, by := range append([]int{4, 5, 65, 256}, farNumbers...) {
		b := started(t, 4, 1)
		b.park(0, 0)
		b.park(3, 0)
		wantList(t, "Wrote by no thread", b.w.Wrote(0, by), 0, 3)
	}
}

// Look and Moved of one who is parked end, and are nothing to the others.
func TestLookAndMovedOfOneWhoIsParked(t *testing.T) {
	for _, permit := range []bool{false, true} {
		b := started(t, 3, 2)
		b.park(1, 5)
		b.look(2, 5)
		if permit {
			b.wake(1)
		}
		for range 2 * api.MaxSpin {
			b.w.Look(1, 6)
		}
		b.w.Moved(1)
		b.w.Look(1, 7)
		b.w.Parked(1)
		b.w.Looks(1)
		b.w.Wake(1)
		b.w.Wrote(6, 0)
		b.w.Resume(1)
		if b.w.Looks(0) != 0 || b.w.Looks(2) != 1 || !b.w.Resume(0) || !b.w.Resume(2) {
			t.Error("another thread isn't as it was")
		}
	}
}
