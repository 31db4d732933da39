package ticket

import (
	"slices"
	"strings"
	"testing"

	"ropeline/api"
	"ropeline/asm"
	"ropeline/core"
	"ropeline/exec"
	"ropeline/fifo"
	"ropeline/locktest"
	"ropeline/trace"
)

const top = 1<<32 - 1 // the greatest word

// chapter is the program's lines, once more.
var chapter = []string{
	"lock:",
	"fadd r1 0 r0 1",
	"mark 1",
	"await r2 1 r0 eq r1",
	"mark 2",
	"done 1",
	"unlock:",
	"addk r1 r1 1",
	"store 1 r0 r1",
	"mark 4",
	"done 2",
}

// chapterCode is what they mean, told without layer 7: all Ops stand here as they are, not by their names.
var chapterCode = api.Code{
	L: []api.Inst{
		{Op: 20, D: 1, A: 0, S: 0, K: 1},
		{Op: 12, K: 1},
		{Op: 21, D: 2, A: 1, S: 0, T: 1, K: 0, To: -1},
		{Op: 12, K: 2},
		{Op: 13, K: 1},
		{Op: 3, D: 1, S: 1, K: 1},
		{Op: 17, A: 1, S: 0, T: 1},
		{Op: 12, K: 4},
		{Op: 13, K: 2},
	},
	Lock:   0,
	Unlock: 5,
}

// starts are numbers at which numbers begin; from the last ones on they go round.
var starts = locktest.Starts()

func spec(t *testing.T, n int, start uint32) api.Spec {
	t.Helper()
	s, e := Spec(n, start)
	if e != api.OK {
		t.Fatalf("Spec(%d, %d): error %d", n, start, e)
	}
	return s
}

func started(t *testing.T, n int, start uint32) *locktest.Run {
	t.Helper()
	r, err := locktest.Start(spec(t, n, start), n)
	if err != nil {
		t.Fatalf("Spec(%d, %d): %v", n, start, err)
	}
	return r
}

// chapterSpec is the spec that the chapter says.
func chapterSpec(n int, start uint32) api.Spec {
	return api.Spec{Code: chapterCode, Sizes: []int{1, 1}, Init: []uint32{start, start}, R7: make([]uint32, n)}
}

func wantFine(t *testing.T, n int, start uint32, err error) {
	t.Helper()
	if err != nil {
		t.Fatalf("%d threads, from %d on: %v", n, start, err)
	}
}

// P14.1

func TestText(t *testing.T) {
	want := strings.Join(chapter, "\n") + "\n"
	for range 2 {
		if got := Text(); got != want {
			t.Errorf("Text() = %q, want %q", got, want)
		}
	}
}

func TestTheCodeIsTheTextAssembled(t *testing.T) {
	c, line, e := asm.Assemble(Text())
	if e != api.OK || line != 0 || !asm.Same(c, chapterCode) {
		t.Errorf("Assemble(Text()) = %+v, line %d, error %d, want %+v", c, line, e, chapterCode)
	}
	if s := spec(t, 1, 0); !asm.Same(s.Code, c) || !asm.Right(s.Code) {
		t.Errorf("the spec's code is %+v, want %+v", s.Code, c)
	}
}

func TestSpec(t *testing.T) {
	for n := 1; n <= api.MaxThreads; n++ {
		for _, start := range starts {
			wantFine(t, n, start, locktest.Alike(spec(t, n, start), chapterSpec(n, start)))
		}
	}
}

func TestSpecIsALocks(t *testing.T) {
	for _, n := range []int{1, 2, 3, 63, 64} {
		for _, start := range starts {
			s := spec(t, n, start)
			if !exec.Right(s, n) || exec.Right(s, n-1) || exec.Right(s, n+1) {
				t.Errorf("Spec(%d, %d) may be for %d threads: %v, %v and %v", n, start, n, exec.Right(s, n), exec.Right(s, n-1), exec.Right(s, n+1))
			}
		}
	}
}

func TestSpecRefusesWhatMayNotBe(t *testing.T) {
	for _, n := range locktest.WrongSizes() {
		for _, start := range starts {
			s, e := Spec(n, start)
			if e != api.ErrConfig {
				t.Errorf("Spec(%d, %d): error %d, want %d", n, start, e, api.ErrConfig)
			}
			wantFine(t, n, start, locktest.Alike(s, api.Spec{}))
		}
	}
}

func TestWhatIsAnsweredIsItsOwn(t *testing.T) {
	for _, n := range []int{1, 2, 63, 64} {
		for _, start := range starts {
			wantFine(t, n, start, locktest.Own(chapterSpec(n, start), func() api.Spec { return spec(t, n, start) }))
		}
	}
}

// P14.2: steps told one by one

func began() exec.Out   { return exec.Out{Done: -1, Addr: -1} }
func stays() exec.Out   { return exec.Out{Done: -1, Addr: 1, Stay: true} }
func drew() exec.Out    { return exec.Out{Marks: []int{api.Enq}, Done: -1, Addr: 0, Wrote: true} }
func granted() exec.Out { return exec.Out{Marks: []int{api.Grant}, Done: api.Acquired, Addr: 1} }
func called() exec.Out {
	return exec.Out{Marks: []int{api.Release}, Done: api.Released, Addr: 1, Wrote: true}
}
func words(next, turn uint32) []uint32  { return []uint32{next, turn} }
func registers(r1, r2 uint32) [8]uint32 { return [8]uint32{1: r1, 2: r2} }

// told is what a thread does next, what that comes to, and how all stands behind it: the two cells, and the thread's registers 1 and 2.
func told(thread, how int, out exec.Out, words []uint32, r1, r2 uint32) locktest.Told {
	return locktest.Told{Thread: thread, How: how, Out: out, Words: words, R: registers(r1, r2)}
}

// doTold does what is told on a new lock at work. (Whoever waits may be late or not.)
func doTold(t *testing.T, n int, start uint32, l []locktest.Told) {
	t.Helper()
	for _, late := range []bool{false, true} {
		wantFine(t, n, start, locktest.DoTold(spec(t, n, start), n, late, l))
	}
}

func TestOneThread(t *testing.T) {
	for _, s := range starts {
		doTold(t, 1, s, []locktest.Told{
			told(0, locktest.Locks, began(), words(s, s), 0, 0),
			told(0, locktest.Steps, drew(), words(s+1, s), s, 0),
			told(0, locktest.Steps, granted(), words(s+1, s), s, s),
			told(0, locktest.Unlocks, began(), words(s+1, s), s+1, s),
			told(0, locktest.Steps, called(), words(s+1, s+1), s+1, s),
			told(0, locktest.Locks, began(), words(s+1, s+1), s+1, s),
			told(0, locktest.Steps, drew(), words(s+2, s+1), s+1, s),
			told(0, locktest.Steps, granted(), words(s+2, s+1), s+1, s+1),
			told(0, locktest.Unlocks, began(), words(s+2, s+1), s+2, s+1),
			told(0, locktest.Steps, called(), words(s+2, s+2), s+2, s+1),
		})
	}
}

func TestExampleOfTheChapter(t *testing.T) {
	doTold(t, 1, 4294967295, []locktest.Told{
		told(0, locktest.Locks, began(), words(4294967295, 4294967295), 0, 0),
		told(0, locktest.Steps, drew(), words(0, 4294967295), 4294967295, 0),
		told(0, locktest.Steps, granted(), words(0, 4294967295), 4294967295, 4294967295),
		told(0, locktest.Unlocks, began(), words(0, 4294967295), 0, 4294967295),
		told(0, locktest.Steps, called(), words(0, 0), 0, 4294967295),
	})
}

// The first one of the ten examples: the first one draws the last number, the second one 0.
func TestTwoThreadsDrawTheLastNumberAnd0(t *testing.T) {
	doTold(t, 2, top, []locktest.Told{
		told(0, locktest.Locks, began(), words(top, top), 0, 0),
		told(1, locktest.Locks, began(), words(top, top), 0, 0),
		told(1, locktest.Steps, drew(), words(0, top), top, 0),
		told(0, locktest.Steps, drew(), words(1, top), 0, 0),
		told(0, locktest.Steps, stays(), words(1, top), 0, top),
		told(1, locktest.Steps, granted(), words(1, top), top, top),
		told(0, locktest.Steps, stays(), words(1, top), 0, top),
		told(1, locktest.Unlocks, began(), words(1, top), 0, top),
		told(0, locktest.Steps, stays(), words(1, top), 0, top),
		told(1, locktest.Steps, called(), words(1, 0), 0, top),
		told(1, locktest.Locks, began(), words(1, 0), 0, top),
		told(1, locktest.Steps, drew(), words(2, 0), 1, top),
		told(1, locktest.Steps, stays(), words(2, 0), 1, 0),
		told(0, locktest.Steps, granted(), words(2, 0), 0, 0),
		told(0, locktest.Unlocks, began(), words(2, 0), 1, 0),
		told(0, locktest.Steps, called(), words(2, 1), 1, 0),
		told(1, locktest.Steps, granted(), words(2, 1), 1, 1),
	})
}

// A step of one whose call is over is none of the lock's, and changes nothing.
func TestWhoHasNothingToDoDoesNoStep(t *testing.T) {
	x, _ := exec.New(spec(t, 1, 5), 1)
	for _, c := range []struct {
		unlock bool
		steps  int
		over   core.Core
	}{
		{false, 2, core.Core{R: registers(5, 5), Pc: 4}},
		{true, 1, core.Core{R: registers(6, 5), Pc: 8}},
	} {
		x.Begin(0, c.unlock)
		for range c.steps {
			x.Step(0, false)
		}
		before := x.Words()
		if o := x.Step(0, false); o.E != api.ErrTrap || !slices.Equal(x.Words(), before) || x.Core(0) != c.over {
			t.Errorf("behind the call (unlock: %v) a step comes to %+v, the cells are %v, the core %+v", c.unlock, o, x.Words(), x.Core(0))
		}
	}
}

// P14.2: whoever does a step when

func TestAllWays(t *testing.T) {
	for _, c := range []struct{ threads, doings int }{{1, 60}, {2, 44}, {3, 24}, {4, 15}} {
		for _, start := range []uint32{0, 1 << 31, top - 1, top} {
			met, err := locktest.AllWays(spec(t, c.threads, start), c.threads, c.doings)
			wantFine(t, c.threads, start, err)
			if met < 60 || c.threads > 1 && met < 1000 {
				t.Errorf("%d threads, from %d on: all stood in %d ways alone", c.threads, start, met)
			}
		}
	}
}

func TestLongMixedWays(t *testing.T) {
	for _, n := range []int{1, 2, 3, 5, 16, 63, 64} {
		for k, start := range starts {
			r := started(t, n, start)
			wantFine(t, n, start, r.Mixed(uint64(100*n+k), 6000))
			if fit, ok := fifo.Check(n, r.Entries); !ok {
				t.Errorf("%d threads, from %d on: %d of %d entries fit", n, start, fit, len(r.Entries))
			}
			checkCells(t, n, start, r)
			if n <= 5 && trace.Count(r.Entries, trace.Over) < 100 {
				t.Errorf("%d threads, from %d on: the lock was had %d times alone", n, start, trace.Count(r.Entries, trace.Over))
			}
		}
	}
}

// checkCells asks that the cells are what was drawn, and what was released.
func checkCells(t *testing.T, n int, start uint32, r *locktest.Run) {
	t.Helper()
	want := []uint32{start + uint32(trace.Count(r.Entries, trace.Enq)), start + uint32(trace.Count(r.Entries, trace.Release))}
	if w := r.Work.Words(); !slices.Equal(w, want) {
		t.Errorf("%d threads, from %d on: the cells are %v, want %v", n, start, w, want)
	}
}

// All draw ahead of the first unlock, so that numbers go round while threads wait, between each two of them for some start.
func TestNumbersGoRoundWhileThreadsWait(t *testing.T) {
	for _, n := range []int{2, 3, 7, 64} {
		for ahead := range n + 1 {
			start := uint32(0) - uint32(ahead)
			r, come := started(t, n, start), locktest.Shuffled(n, uint64(ahead))
			for _, thread := range come {
				wantFine(t, n, start, r.DoTimes(thread, 2))
			}
			for turn := range come {
				wantFine(t, n, start, r.Serve(come[turn:], 3))
				checkCells(t, n, start, r)
			}
		}
	}
}

// Who calls first, but draws last, is granted last.
func TestFirstToDrawIsFirst(t *testing.T) {
	for _, start := range starts {
		r, come := started(t, 9, start), locktest.Shuffled(9, 4)
		for thread := range 9 {
			wantFine(t, 9, start, r.DoTimes(thread, 1))
		}
		for _, thread := range come {
			wantFine(t, 9, start, r.DoTimes(thread, 1))
		}
		wantFine(t, 9, start, r.Turns([]int{0, 1, 2, 3, 4, 5, 6, 7, 8}, 0, 3*9))
		if got := locktest.ThreadsOf(r.Entries, trace.Grant); !slices.Equal(got, come) {
			t.Errorf("from %d on: granted to %v, want %v", start, got, come)
		}
	}
}

// P14.3

// Behind the call and the draw, each of those ahead does three things at most: it sees its number, calls to unlock, and calls the next one.
func longestCall(n int, order []int) int { return 3 * n * locktest.Most(order) }

func TestEachCallComesToItsEnd(t *testing.T) {
	for _, n := range []int{1, 2, 3, 4, 5, 8, 17, 63, 64} {
		for _, start := range starts {
			for _, order := range locktest.Orders(n) {
				r := started(t, n, start)
				wantFine(t, n, start, r.Turns(order, 5, longestCall(n, order)))
				checkServed(t, n, 5, start, r)
			}
		}
	}
}

// checkServed asks that each thread had the lock so many times, and that nothing is left to be done.
func checkServed(t *testing.T, n, calls int, start uint32, r *locktest.Run) {
	t.Helper()
	wantFine(t, n, start, r.Served(calls))
	next := start + uint32(n*calls)
	if w := r.Work.Words(); !slices.Equal(w, []uint32{next, next}) {
		t.Errorf("%d threads, from %d on: in the end the cells are %v, want %d twice", n, start, w, next)
	}
}

func TestACallAloneBehindAll(t *testing.T) {
	for _, n := range []int{1, 2, 3, 64} {
		for _, start := range starts {
			r := started(t, n, start)
			wantFine(t, n, start, r.Turns(locktest.Shuffled(n, 3), 3, 3*n))
			for thread := range n {
				wantFine(t, n, start, r.Turns([]int{thread}, 1, 3))
			}
			checkServed(t, n, 4, start, r)
		}
	}
}

// However all stand behind a mixed way: if they go on by turns, what they have begun comes to its end, and so do more calls.
func TestEachCallComesToItsEndBehindMixedWays(t *testing.T) {
	for _, n := range []int{1, 2, 3, 5, 16, 64} {
		for seed := range 30 {
			start := top - uint32(seed*n)
			r := started(t, n, start)
			wantFine(t, n, start, r.Mixed(uint64(seed), 20*n+seed))
			wantFine(t, n, start, r.Turns(locktest.Shuffled(n, 3), 2, 3*n))
			if w := r.Work.Words(); w[0] != w[1] {
				t.Errorf("%d threads, from %d on: in the end the cells are %v", n, start, w)
			}
			if got, over := trace.Count(r.Entries, trace.Call), trace.Count(r.Entries, trace.Over); got != over {
				t.Errorf("%d threads, from %d on: of %d calls %d are over", n, start, got, over)
			}
		}
	}
}
