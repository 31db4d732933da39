package graunke

import (
	"strings"
	"testing"

	"ropeline/api"
	"ropeline/asm"
	"ropeline/exec"
	"ropeline/fifo"
	"ropeline/locktest"
	"ropeline/trace"
)

// chapter is the program's lines, once more.
var chapter = []string{
	"lock:",
	"self r1",
	"load r2 1 r1",
	"shl r3 r1 1",
	"or r3 r3 r2",
	"swap r4 0 r0 r3",
	"mark 1",
	"andk r5 r4 1",
	"shr r6 r4 1",
	"await r4 1 r6 ne r5",
	"mark 2",
	"done 1",
	"unlock:",
	"const r3 1",
	"beq r2 r0 turn",
	"const r3 0",
	"turn:",
	"store 1 r1 r3",
	"mark 4",
	"done 2",
}

// chapterCode is what they mean, told without layer 7: all Ops stand here as they are, not by their names.
var chapterCode = api.Code{
	L: []api.Inst{
		{Op: 11, D: 1},
		{Op: 16, D: 2, A: 1, S: 1},
		{Op: 5, D: 3, S: 1, K: 1},
		{Op: 7, D: 3, S: 3, T: 2},
		{Op: 18, D: 4, A: 0, S: 0, T: 3},
		{Op: 12, K: 1},
		{Op: 4, D: 5, S: 4, K: 1},
		{Op: 6, D: 6, S: 4, K: 1},
		{Op: 21, D: 4, A: 1, S: 6, T: 5, K: 1, To: -1},
		{Op: 12, K: 2},
		{Op: 13, K: 1},
		{Op: 1, D: 3, K: 1},
		{Op: 8, S: 2, T: 0, To: 14},
		{Op: 1, D: 3, K: 0},
		{Op: 17, A: 1, S: 1, T: 3},
		{Op: 12, K: 4},
		{Op: 13, K: 2},
	},
	Lock:   0,
	Unlock: 11,
}

// chapterSpec is the spec that the chapter says.
func chapterSpec(n int) api.Spec {
	s := api.Spec{Code: chapterCode, Sizes: []int{1, n + 1}, Init: []uint32{uint32(n + n)}, R7: make([]uint32, n)}
	for range n {
		s.Init = append(s.Init, 0)
	}
	s.Init = append(s.Init, 1)
	return s
}

func spec(t *testing.T, n int) api.Spec {
	t.Helper()
	s, e := Spec(n)
	if e != api.OK {
		t.Fatalf("Spec(%d): error %d", n, e)
	}
	return s
}

func started(t *testing.T, n int) *locktest.Run {
	t.Helper()
	r, err := locktest.Start(spec(t, n), n)
	wantFine(t, n, err)
	return r
}

func wantFine(t *testing.T, n int, err error) {
	t.Helper()
	if err != nil {
		t.Fatalf("%d threads: %v", n, err)
	}
}

// P16.1

func TestText(t *testing.T) {
	want := strings.Join(chapter, "\n") + "\n"
	for range 2 {
		if got := Text(); got != want {
			t.Errorf("Text() = %q, want %q", got, want)
		}
	}
}

func TestTheCodeIsTheTextAssembled(t *testing.T) {
	c, line, e := asm.Assemble(Text())
	if e != api.OK || line != 0 || !asm.Same(c, chapterCode) {
		t.Errorf("Assemble(Text()) = %+v, line %d, error %d, want %+v", c, line, e, chapterCode)
	}
	if s := spec(t, 1); !asm.Same(s.Code, c) || !asm.Right(s.Code) {
		t.Errorf("the spec's code is %+v, want %+v", s.Code, c)
	}
}

func TestSpec(t *testing.T) {
	for n := 1; n <= api.MaxThreads; n++ {
		wantFine(t, n, locktest.Alike(spec(t, n), chapterSpec(n)))
	}
}

// The cells of the fewest threads, of the chapter's example, and of the most.
func TestCells(t *testing.T) {
	most := make([]uint32, 66)
	most[0], most[65] = 128, 1
	for n, cells := range map[int][]uint32{1: {2, 0, 1}, 2: {4, 0, 0, 1}, 3: {6, 0, 0, 0, 1}, 64: most} {
		want := chapterSpec(n)
		want.Init = cells
		wantFine(t, n, locktest.Alike(spec(t, n), want))
	}
}

func TestSpecIsALocks(t *testing.T) {
	for n := 1; n <= api.MaxThreads; n++ {
		s := spec(t, n)
		if !exec.Right(s, n) || exec.Right(s, n-1) || exec.Right(s, n+1) {
			t.Errorf("Spec(%d) may be for %d threads: %v, for one less: %v, for one more: %v", n, n, exec.Right(s, n), exec.Right(s, n-1), exec.Right(s, n+1))
		}
	}
}

func TestThreadsThatMayNotBeAreRefused(t *testing.T) {
	for _, n := range locktest.WrongSizes() {
		s, e := Spec(n)
		if e != api.ErrConfig {
			t.Errorf("Spec(%d): error %d, want %d", n, e, api.ErrConfig)
		}
		wantFine(t, n, locktest.Alike(s, api.Spec{}))
	}
}

func TestWhatIsAnsweredIsItsOwn(t *testing.T) {
	for _, n := range []int{1, 2, 3, 63, 64} {
		wantFine(t, n, locktest.Own(chapterSpec(n), func() api.Spec { return spec(t, n) }))
	}
}

// P16.2: steps told one by one

func began() exec.Out  { return exec.Out{Done: -1, Addr: -1} }
func joined() exec.Out { return exec.Out{Marks: []int{api.Enq}, Done: -1, Addr: 0, Wrote: true} }

// The others have their access to a flag.
func noted(flag int) exec.Out { return exec.Out{Done: -1, Addr: 1 + flag} }
func stays(flag int) exec.Out { return exec.Out{Done: -1, Addr: 1 + flag, Stay: true} }
func granted(flag int) exec.Out {
	return exec.Out{Marks: []int{api.Grant}, Done: api.Acquired, Addr: 1 + flag}
}
func turned(flag int) exec.Out {
	return exec.Out{Marks: []int{api.Release}, Done: api.Released, Addr: 1 + flag, Wrote: true}
}

func words(l ...uint32) []uint32 { return l }

// registers are those from 1 on.
func registers(l ...uint32) (r [api.Registers]uint32) {
	copy(r[1:], l)
	return r
}

// told is what a thread does next, what that comes to, and how all stands behind it: all cells, and the thread's registers from 1 on.
func told(thread, how int, out exec.Out, l []uint32, r ...uint32) locktest.Told {
	return locktest.Told{Thread: thread, How: how, Out: out, Words: l, R: registers(r...)}
}

// doTold does what is told on a new lock at work. (Whoever waits may be late or not.)
func doTold(t *testing.T, n int, l []locktest.Told) {
	t.Helper()
	for _, late := range []bool{false, true} {
		wantFine(t, n, locktest.DoTold(spec(t, n), n, late, l))
	}
}

// First it finds nobody's name, then its own, with the flag as it was ahead of its last unlock.
func TestOneThread(t *testing.T) {
	doTold(t, 1, []locktest.Told{
		told(0, locktest.Locks, began(), words(2, 0, 1)),
		told(0, locktest.Steps, noted(0), words(2, 0, 1)),
		told(0, locktest.Steps, joined(), words(0, 0, 1), 0, 0, 0, 2, 0, 1),
		told(0, locktest.Steps, granted(1), words(0, 0, 1), 0, 0, 0, 1, 0, 1),
		told(0, locktest.Unlocks, began(), words(0, 0, 1), 0, 0, 1, 1, 0, 1),
		told(0, locktest.Steps, turned(0), words(0, 1, 1), 0, 0, 1, 1, 0, 1),
		told(0, locktest.Locks, began(), words(0, 1, 1), 0, 0, 1, 1, 0, 1),
		told(0, locktest.Steps, noted(0), words(0, 1, 1), 0, 1, 1, 1, 0, 1),
		told(0, locktest.Steps, joined(), words(1, 1, 1), 0, 1, 1, 0, 0, 0),
		told(0, locktest.Steps, granted(0), words(1, 1, 1), 0, 1, 1, 1, 0, 0),
		told(0, locktest.Unlocks, began(), words(1, 1, 1), 0, 1, 0, 1, 0, 0),
		told(0, locktest.Steps, turned(0), words(1, 0, 1), 0, 1, 0, 1, 0, 0),
		told(0, locktest.Locks, began(), words(1, 0, 1), 0, 1, 0, 1, 0, 0),
		told(0, locktest.Steps, noted(0), words(1, 0, 1), 0, 0, 0, 1, 0, 0),
		told(0, locktest.Steps, joined(), words(0, 0, 1), 0, 0, 0, 1, 1, 0),
		told(0, locktest.Steps, granted(0), words(0, 0, 1), 0, 0, 0, 0, 1, 0),
	})
}

// The third one of the ten examples: the thread 1 calls again at once, and waits for the thread 0, whose flag it noted as it came.
func TestWhoCallsAgainAtOnceWaitsForTheOneAhead(t *testing.T) {
	doTold(t, 2, []locktest.Told{
		told(1, locktest.Locks, began(), words(4, 0, 0, 1), 1),
		told(1, locktest.Steps, noted(1), words(4, 0, 0, 1), 1, 0, 2),
		told(0, locktest.Locks, began(), words(4, 0, 0, 1), 0),
		told(0, locktest.Steps, noted(0), words(4, 0, 0, 1), 0, 0, 0),
		told(1, locktest.Steps, joined(), words(2, 0, 0, 1), 1, 0, 2, 4, 0, 2),
		told(0, locktest.Steps, joined(), words(0, 0, 0, 1), 0, 0, 0, 2, 0, 1),
		told(0, locktest.Steps, stays(1), words(0, 0, 0, 1), 0, 0, 0, 0, 0, 1),
		told(1, locktest.Steps, granted(2), words(0, 0, 0, 1), 1, 0, 2, 1, 0, 2),
		told(0, locktest.Steps, stays(1), words(0, 0, 0, 1), 0, 0, 0, 0, 0, 1),
		told(1, locktest.Unlocks, began(), words(0, 0, 0, 1), 1, 0, 1, 1, 0, 2),
		told(0, locktest.Steps, stays(1), words(0, 0, 0, 1), 0, 0, 0, 0, 0, 1),
		told(1, locktest.Steps, turned(1), words(0, 0, 1, 1), 1, 0, 1, 1, 0, 2),
		told(1, locktest.Locks, began(), words(0, 0, 1, 1), 1, 0, 1, 1, 0, 2),
		told(1, locktest.Steps, noted(1), words(0, 0, 1, 1), 1, 1, 3, 1, 0, 2),
		told(1, locktest.Steps, joined(), words(3, 0, 1, 1), 1, 1, 3, 0, 0, 0),
		told(1, locktest.Steps, stays(0), words(3, 0, 1, 1), 1, 1, 3, 0, 0, 0),
		told(0, locktest.Steps, granted(1), words(3, 0, 1, 1), 0, 0, 0, 1, 0, 1),
		told(1, locktest.Steps, stays(0), words(3, 0, 1, 1), 1, 1, 3, 0, 0, 0),
		told(0, locktest.Unlocks, began(), words(3, 0, 1, 1), 0, 0, 1, 1, 0, 1),
		told(0, locktest.Steps, turned(0), words(3, 1, 1, 1), 0, 0, 1, 1, 0, 1),
		told(0, locktest.Locks, began(), words(3, 1, 1, 1), 0, 0, 1, 1, 0, 1),
		told(0, locktest.Steps, noted(0), words(3, 1, 1, 1), 0, 1, 1, 1, 0, 1),
		told(0, locktest.Steps, joined(), words(1, 1, 1, 1), 0, 1, 1, 3, 1, 1),
		told(0, locktest.Steps, stays(1), words(1, 1, 1, 1), 0, 1, 1, 1, 1, 1),
		told(1, locktest.Steps, granted(0), words(1, 1, 1, 1), 1, 1, 3, 1, 0, 0),
		told(1, locktest.Unlocks, began(), words(1, 1, 1, 1), 1, 1, 0, 1, 0, 0),
		told(1, locktest.Steps, turned(1), words(1, 1, 0, 1), 1, 1, 0, 1, 0, 0),
		told(0, locktest.Steps, granted(1), words(1, 1, 0, 1), 0, 1, 1, 0, 1, 1),
	})
}

// Who calls while nobody waits finds the name of the one who had the lock last.
func TestThreeThreadsOneBehindTheOther(t *testing.T) {
	doTold(t, 3, []locktest.Told{
		told(2, locktest.Locks, began(), words(6, 0, 0, 0, 1), 2),
		told(2, locktest.Steps, noted(2), words(6, 0, 0, 0, 1), 2, 0, 4),
		told(2, locktest.Steps, joined(), words(4, 0, 0, 0, 1), 2, 0, 4, 6, 0, 3),
		told(2, locktest.Steps, granted(3), words(4, 0, 0, 0, 1), 2, 0, 4, 1, 0, 3),
		told(2, locktest.Unlocks, began(), words(4, 0, 0, 0, 1), 2, 0, 1, 1, 0, 3),
		told(2, locktest.Steps, turned(2), words(4, 0, 0, 1, 1), 2, 0, 1, 1, 0, 3),
		told(0, locktest.Locks, began(), words(4, 0, 0, 1, 1)),
		told(0, locktest.Steps, noted(0), words(4, 0, 0, 1, 1)),
		told(0, locktest.Steps, joined(), words(0, 0, 0, 1, 1), 0, 0, 0, 4, 0, 2),
		told(0, locktest.Steps, granted(2), words(0, 0, 0, 1, 1), 0, 0, 0, 1, 0, 2),
		told(0, locktest.Unlocks, began(), words(0, 0, 0, 1, 1), 0, 0, 1, 1, 0, 2),
		told(0, locktest.Steps, turned(0), words(0, 1, 0, 1, 1), 0, 0, 1, 1, 0, 2),
		told(1, locktest.Locks, began(), words(0, 1, 0, 1, 1), 1),
		told(1, locktest.Steps, noted(1), words(0, 1, 0, 1, 1), 1, 0, 2),
		told(1, locktest.Steps, joined(), words(2, 1, 0, 1, 1), 1, 0, 2, 0, 0, 0),
		told(1, locktest.Steps, granted(0), words(2, 1, 0, 1, 1), 1, 0, 2, 1, 0, 0),
		told(2, locktest.Locks, began(), words(2, 1, 0, 1, 1), 2, 0, 1, 1, 0, 3),
		told(2, locktest.Steps, noted(2), words(2, 1, 0, 1, 1), 2, 1, 5, 1, 0, 3),
		told(2, locktest.Steps, joined(), words(5, 1, 0, 1, 1), 2, 1, 5, 2, 0, 1),
		told(2, locktest.Steps, stays(1), words(5, 1, 0, 1, 1), 2, 1, 5, 0, 0, 1),
	})
}

// P16.2: whoever does a step when

// Flags turn to and fro, so that all stands as it stood before again: behind 20 doings of one thread, 50 of two and 75 of three nothing new comes, so these are all their ways, however long.
func TestAllWays(t *testing.T) {
	for _, c := range []struct{ threads, doings, met int }{{1, 20, 20}, {1, 100, 20}, {2, 50, 1056}, {2, 100, 1056}, {3, 100, 96966}, {4, 20, 20765}} {
		met, err := locktest.AllWays(spec(t, c.threads), c.threads, c.doings)
		wantFine(t, c.threads, err)
		if met != c.met {
			t.Errorf("%d threads, %d doings: all stood in %d ways, want %d", c.threads, c.doings, met, c.met)
		}
	}
}

func TestLongMixedWays(t *testing.T) {
	for _, n := range []int{1, 2, 3, 4, 5, 8, 16, 63, 64} {
		for seed := range uint64(13) {
			r := started(t, n)
			wantFine(t, n, r.Mixed(seed, 6000))
			if fit, ok := fifo.Check(n, r.Entries); !ok {
				t.Errorf("%d threads: %d of %d entries fit", n, fit, len(r.Entries))
			}
			checkCells(t, n, r)
			if n <= 5 && trace.Count(r.Entries, trace.Over) < 80 {
				t.Errorf("%d threads: the lock was had %d times alone", n, trace.Count(r.Entries, trace.Over))
			}
		}
	}
}

// checkCells asks that each flag was turned as often as its thread released the lock, and that the tail is the name of the one who came last, with its flag as it was then.
func checkCells(t *testing.T, n int, r *locktest.Run) {
	t.Helper()
	want := chapterSpec(n)
	for _, x := range r.Entries {
		flag := &want.Init[1+x.Thread]
		switch x.Kind {
		case trace.Enq:
			want.Init[0] = uint32(x.Thread)*2 + *flag
		case trace.Release:
			*flag = 1 - *flag
		}
	}
	got := chapterSpec(n)
	got.Init = r.Work.Words()
	wantFine(t, n, locktest.Alike(got, want))
}

// come lets threads call, and come to their places, in that order.
func come(t *testing.T, r *locktest.Run, l []int) {
	t.Helper()
	for _, thread := range l {
		wantFine(t, len(l), r.DoTimes(thread, 3))
	}
}

// wantServed asks that those who wait have the lock in that order.
func wantServed(t *testing.T, n int, r *locktest.Run, waiting []int) {
	t.Helper()
	for turn := range waiting {
		wantFine(t, n, r.Serve(waiting[turn:], 3))
		checkCells(t, n, r)
	}
}

// Each time they come in another order, so that each waits for some others, by both flags.
func TestAllWaitInTheOrderInWhichTheyCame(t *testing.T) {
	for _, n := range []int{1, 2, 3, 4, 7, 64} {
		r := started(t, n)
		for seed := range uint64(9) {
			l := locktest.Shuffled(n, seed)
			come(t, r, l)
			wantServed(t, n, r, l)
		}
	}
}

// Who calls first, and reads its flag first, but is the last one to put its name into the tail, is granted last.
func TestFirstInTheTailIsFirst(t *testing.T) {
	for seed := range uint64(5) {
		r, l := started(t, 9), locktest.Shuffled(9, seed)
		for doing := range 2 * 9 {
			wantFine(t, 9, r.DoTimes(doing%9, 1))
		}
		for _, thread := range l {
			wantFine(t, 9, r.DoTimes(thread, 1))
		}
		wantServed(t, 9, r, l)
	}
}

// Who is behind has not looked yet, when the one ahead unlocks and calls again: its flag is turned once alone.
func TestWhoIsAheadCallsAgainAheadOfALook(t *testing.T) {
	for _, n := range []int{1, 2, 3, 5, 64} {
		r, l := started(t, n), locktest.Shuffled(n, uint64(n))
		come(t, r, l)
		for range 3*n + 1 {
			first := l[0]
			wantFine(t, n, r.DoTimes(first, 3+3))
			if r.State(first) != fifo.Queued {
				t.Fatalf("%d threads: %d didn't have the lock, or doesn't wait", n, first)
			}
			l = append(l[1:], first)
			checkCells(t, n, r)
		}
		wantServed(t, n, r, l)
	}
}

// P16.3

// It calls, notes its flag, comes to its place, and looks; each of those ahead does three things at most: it looks, calls to unlock, and turns its flag.
func longestCall(n int, order []int) int { return (4 + 3*(n-1)) * locktest.Most(order) }

func TestEachCallComesToItsEnd(t *testing.T) {
	for _, n := range []int{1, 2, 3, 4, 5, 8, 17, 63, 64} {
		for _, order := range locktest.Orders(n) {
			for calls := range 7 {
				r := started(t, n)
				wantFine(t, n, r.Turns(order, calls, longestCall(n, order)))
				wantFine(t, n, r.Served(calls))
				checkCells(t, n, r)
			}
		}
	}
}

func TestACallAloneBehindAll(t *testing.T) {
	for _, n := range []int{1, 2, 3, 64} {
		for calls := range 4 {
			r, l := started(t, n), locktest.Shuffled(n, uint64(calls))
			wantFine(t, n, r.Turns(l, calls, longestCall(n, l)))
			for thread := range n {
				wantFine(t, n, r.Turns([]int{thread}, 2, 4))
			}
			wantFine(t, n, r.Served(calls+2))
			checkCells(t, n, r)
		}
	}
}

// However all stand behind a mixed way: if they go on by turns, what they have begun comes to its end, and so do more calls.
func TestEachCallComesToItsEndBehindMixedWays(t *testing.T) {
	for _, n := range []int{1, 2, 3, 5, 16, 64} {
		for seed := range 30 {
			r, l := started(t, n), locktest.Shuffled(n, uint64(seed))
			wantFine(t, n, r.Mixed(uint64(seed), 20*n+seed))
			wantFine(t, n, r.Turns(l, 2, longestCall(n, l)))
			if got, over := trace.Count(r.Entries, trace.Call), trace.Count(r.Entries, trace.Over); got != over {
				t.Errorf("%d threads: of %d calls %d are over", n, got, over)
			}
			checkCells(t, n, r)
		}
	}
}
