package permit

import (
	"math"
	"testing"
	"testing/synctest"
	"time"

	"ropeline/api"
)

// farThreads are numbers of no thread, however many there are; cut down to 32 bits, to 8 or to 6, many of them would be fine.
var farThreads = []int{-1, -2, -64, 64, 65, 128, 256, 257, 1 << 31, 1 << 32, 1<<32 + 1, -1 << 32, 1 - 1<<32, math.MaxInt, math.MinInt}

func mustNew(t *testing.T, n int) *Permits {
	t.Helper()
	p, e := New(n)
	if p == nil || e != api.OK {
		t.Fatalf("New(%d) = %v, error %d", n, p, e)
	}
	return p
}

// wantAll asks for all that tells who has a permit: Has of every thread, and Len.
func wantAll(t *testing.T, p *Permits, want []bool) {
	t.Helper()
	count := 0
	for k, has := range want {
		if p.Has(k) != has {
			t.Fatalf("Has(%d) = %v, want all to be %v", k, !has, want)
		}
		if has {
			count++
		}
	}
	if p.Len() != count {
		t.Fatalf("Len() = %d, want %d", p.Len(), count)
	}
	for _, k := range []int{-1, len(want)} {
		if p.Has(k) {
			t.Fatalf("Has(%d) is true of %d threads", k, len(want))
		}
	}
}

func wantGive(t *testing.T, p *Permits, k int, want bool, wantErr api.Errno) {
	t.Helper()
	if ok, e := p.Give(k); ok != want || e != wantErr {
		t.Fatalf("Give(%d) = %v, error %d, want %v, error %d", k, ok, e, want, wantErr)
	}
}

func wantTake(t *testing.T, p *Permits, k int, want bool, wantErr api.Errno) {
	t.Helper()
	if ok, e := p.Take(k); ok != want || e != wantErr {
		t.Fatalf("Take(%d) = %v, error %d, want %v, error %d", k, ok, e, want, wantErr)
	}
}

// giveBoth gives a thread one, there may be such a thread or not, and in a plain list too; all is asked for behind it.
func giveBoth(t *testing.T, p *Permits, has []bool, k int) {
	t.Helper()
	if k < 0 || k >= len(has) {
		wantGive(t, p, k, false, api.ErrThread)
	} else {
		wantGive(t, p, k, !has[k], api.OK)
		has[k] = true
	}
	wantAll(t, p, has)
}

// takeBoth takes it likewise.
func takeBoth(t *testing.T, p *Permits, has []bool, k int) {
	t.Helper()
	if k < 0 || k >= len(has) {
		wantTake(t, p, k, false, api.ErrThread)
	} else {
		wantTake(t, p, k, has[k], api.OK)
		has[k] = false
	}
	wantAll(t, p, has)
}

// draws gives numbers from a rule of its own, so that a run is the same each time.
type draws struct{ x uint64 }

func (d *draws) next(n int) int {
	d.x = d.x*6364136223846793005 + 1442695040888963407
	return int(d.x >> 33 % uint64(n))
}

// P4.2: ahead of the others, which would hang for long if a call waited.

// wantAtOnce runs calls in a bubble: its clock stands still while somebody runs, and goes on only when all in it wait; if they wait for ever, the test fails at once.
func wantAtOnce(t *testing.T, calls func(t *testing.T)) {
	t.Helper()
	synctest.Test(t, func(t *testing.T) {
		start := time.Now()
		calls(t)
		if waited := time.Since(start); waited != 0 {
			t.Errorf("a call waited for %v", waited)
		}
	})
}

func TestNobodyWaitsToGive(t *testing.T) {
	for _, n := range []int{1, 2, 64} {
		wantAtOnce(t, func(t *testing.T) {
			p, has := mustNew(t, n), make([]bool, n)
			for range 200 {
				giveBoth(t, p, has, 0)
				giveBoth(t, p, has, n-1)
			}
			for i := range 2 * n {
				giveBoth(t, p, has, i%n)
			}
		})
	}
}

func TestNobodyWaitsToTake(t *testing.T) {
	for _, n := range []int{1, 2, 64} {
		wantAtOnce(t, func(t *testing.T) {
			p, has := mustNew(t, n), make([]bool, n)
			for range 200 {
				takeBoth(t, p, has, 0)
				takeBoth(t, p, has, n-1)
			}
			giveBoth(t, p, has, n-1)
			for i := range 2 * n {
				takeBoth(t, p, has, i%n)
			}
		})
	}
}

func TestNobodyWaitsInMixedOrder(t *testing.T) {
	wantAtOnce(t, func(t *testing.T) {
		d := &draws{x: 4}
		p, has := mustNew(t, 5), make([]bool, 5)
		for range 2000 {
			k, times := d.next(7)-1, 1+d.next(4)
			give := d.next(2) == 0
			for range times {
				if give {
					giveBoth(t, p, has, k)
				} else {
					takeBoth(t, p, has, k)
				}
			}
		}
	})
}

// P4.1

func TestNewHasNoPermitAtFirst(t *testing.T) {
	for n := 1; n <= 64; n++ {
		wantAll(t, mustNew(t, n), make([]bool, n))
	}
}

func TestNewRefusesWhatIsNotFrom1To64(t *testing.T) {
	for _, n := range []int{
		0, -1, -2, -64, 65, 66, 100, 128, 256, 257,
		// Cut down to 32 bits these would be fine.
		1<<32 + 1, 1<<32 + 64, 1 - 1<<32, 64 - 1<<32,
		math.MaxInt, math.MinInt,
	} {
		if p, e := New(n); p != nil || e != api.ErrArg {
			t.Errorf("New(%d) = %v, error %d, want nil, error %d", n, p, e, api.ErrArg)
		}
	}
}

func TestExampleOfTheChapter(t *testing.T) {
	for _, n := range []int{1, 2, 64} {
		for k := range n {
			p := mustNew(t, n)
			wantGive(t, p, k, true, api.OK)
			wantGive(t, p, k, false, api.OK)
			wantTake(t, p, k, true, api.OK)
			wantTake(t, p, k, false, api.OK)
			wantAll(t, p, make([]bool, n))
		}
	}
}

func TestEachThreadHasItsOwn(t *testing.T) {
	for n := 1; n <= 64; n++ {
		p, has := mustNew(t, n), make([]bool, n)
		for k := range n {
			takeBoth(t, p, has, k)
			giveBoth(t, p, has, k)
		}
		for k := range n {
			giveBoth(t, p, has, k)
			takeBoth(t, p, has, n-1-k)
		}
		for k := range n {
			takeBoth(t, p, has, k)
		}
		if p.Len() != 0 {
			t.Errorf("%d of %d threads have one when all was taken", p.Len(), n)
		}
	}
}

func TestFirstAndLastThreadAlone(t *testing.T) {
	for _, n := range []int{1, 2, 3, 63, 64} {
		for _, k := range []int{0, n - 1} {
			p, has := mustNew(t, n), make([]bool, n)
			takeBoth(t, p, has, k)
			giveBoth(t, p, has, k)
			giveBoth(t, p, has, k)
			takeBoth(t, p, has, k)
			takeBoth(t, p, has, k)
			giveBoth(t, p, has, k)
		}
	}
}

// However often it is given, there is just one to take.
func TestASecondPermitIsNone(t *testing.T) {
	p, has := mustNew(t, 3), make([]bool, 3)
	for given := 1; given < 10; given++ {
		for range given {
			giveBoth(t, p, has, 1)
		}
		wantTake(t, p, 1, true, api.OK)
		wantTake(t, p, 1, false, api.OK)
		has[1] = false
		wantAll(t, p, has)
	}
}

// Takes where there is none aren't owed: the next Give still gives one that stays.
func TestATakeInVainIsForgotten(t *testing.T) {
	p, has := mustNew(t, 3), make([]bool, 3)
	for taken := range 10 {
		for range taken {
			takeBoth(t, p, has, 2)
		}
		wantGive(t, p, 2, true, api.OK)
		has[2] = true
		wantAll(t, p, has)
		takeBoth(t, p, has, 2)
	}
}

func TestThreadsThatThereAreNotAreRefused(t *testing.T) {
	for _, n := range []int{1, 2, 5, 63, 64} {
		for given := range 2 {
			p, has := mustNew(t, n), make([]bool, n)
			for k := range n {
				if k%2 == given {
					giveBoth(t, p, has, k)
				}
			}
			for _, k := range append([]int{n, n + 1, 2 * n, -n, -n - 1}, farThreads...) {
				giveBoth(t, p, has, k)
				takeBoth(t, p, has, k)
				if p.Has(k) {
					t.Errorf("Has(%d) is true of %d threads", k, n)
				}
			}
		}
	}
}

// A run is a number, and its digits are the calls: Give and Take of each thread, and of the two numbers beside them that are none.
func TestAllRunsOfFiveCalls(t *testing.T) {
	for n := 1; n <= 3; n++ {
		calls := 2 * (n + 2)
		runs := calls * calls * calls * calls * calls
		for run := range runs {
			p, has := mustNew(t, n), make([]bool, n)
			for range 5 {
				call := run % calls
				run /= calls
				if call%2 == 0 {
					giveBoth(t, p, has, call/2-1)
				} else {
					takeBoth(t, p, has, call/2-1)
				}
			}
		}
	}
}

func TestCallsAreWhatIsSaidBehindAnyOthers(t *testing.T) {
	for _, n := range []int{1, 2, 3, 4, 7, 31, 32, 33, 63, 64} {
		d := &draws{x: uint64(n)}
		p, has := mustNew(t, n), make([]bool, n)
		for i := range 4000 {
			k := d.next(n+2) - 1
			if d.next(20) == 0 {
				k = farThreads[d.next(len(farThreads))]
			}
			// For long stretches rather given, then rather taken, so that nearly all have one, and nearly nobody.
			if d.next(4) < 1+i/500%2*2 {
				giveBoth(t, p, has, k)
			} else {
				takeBoth(t, p, has, k)
			}
		}
	}
}

func TestAskingChangesNothing(t *testing.T) {
	p, has := mustNew(t, 4), make([]bool, 4)
	giveBoth(t, p, has, 0)
	giveBoth(t, p, has, 3)
	for range 5 {
		wantAll(t, p, has)
	}
	wantTake(t, p, 0, true, api.OK)
	wantTake(t, p, 1, false, api.OK)
	wantTake(t, p, 3, true, api.OK)
}

func TestPermitsMadeTwiceShareNothing(t *testing.T) {
	p, q := mustNew(t, 3), mustNew(t, 3)
	forP, forQ := make([]bool, 3), make([]bool, 3)
	giveBoth(t, p, forP, 0)
	wantAll(t, q, forQ)
	giveBoth(t, q, forQ, 0)
	giveBoth(t, q, forQ, 2)
	wantAll(t, p, forP)
	takeBoth(t, p, forP, 0)
	wantAll(t, q, forQ)
	takeBoth(t, q, forQ, 1)
	takeBoth(t, q, forQ, 2)
	wantAll(t, p, forP)
	r := mustNew(t, 3)
	wantAll(t, r, make([]bool, 3))
	wantAll(t, q, forQ)
}
