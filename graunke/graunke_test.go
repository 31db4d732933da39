package graunke

import (
	"testing"

	"ropeline/api"
	"ropeline/exec"
	"ropeline/fifo"
	"ropeline/locktest"
	"ropeline/trace"
)

// chapter is the program's lines, once more.
var chapter = []string{
	"lock:",
	"self r1",
	"load r2 1 r1",
	"shl r3 r1 1",
	"or r3 r3 r2",
	"swap r4 0 r0 r3",
	"mark 1",
	"andk r5 r4 1",
	"shr r6 r4 1",
	"await r4 1 r6 ne r5",
	"mark 2",
	"done 1",
	"unlock:",
	"const r3 1",
	"beq r2 r0 turn",
	"const r3 0",
	"turn:",
	"store 1 r1 r3",
	"mark 4",
	"done 2",
}

// chapterCode is what they mean, told without layer 7: all Ops stand here as they are, not by their names.
var chapterCode = api.Code{
	L: []api.Inst{
		{Op: 11, D: 1},
		{Op: 16, D: 2, A: 1, S: 1},
		{Op: 5, D: 3, S: 1, K: 1},
		{Op: 7, D: 3, S: 3, T: 2},
		{Op: 18, D: 4, A: 0, S: 0, T: 3},
		{Op: 12, K: 1},
		{Op: 4, D: 5, S: 4, K: 1},
		{Op: 6, D: 6, S: 4, K: 1},
		{Op: 21, D: 4, A: 1, S: 6, T: 5, K: 1, To: -1},
		{Op: 12, K: 2},
		{Op: 13, K: 1},
		{Op: 1, D: 3, K: 1},
		{Op: 8, S: 2, T: 0, To: 14},
		{Op: 1, D: 3, K: 0},
		{Op: 17, A: 1, S: 1, T: 3},
		{Op: 12, K: 4},
		{Op: 13, K: 2},
	},
	Lock:   0,
	Unlock: 11,
}

// chapterSpec is the spec that the chapter says.
func chapterSpec(n int) api.Spec {
	s := api.Spec{Code: chapterCode, Sizes: []int{1, n + 1}, Init: []uint32{uint32(n + n)}, R7: make([]uint32, n)}
	for range n {
		s.Init = append(s.Init, 0)
	}
	s.Init = append(s.Init, 1)
	return s
}

func spec(t *testing.T, n int) api.Spec {
	t.Helper()
	s, e := Spec(n)
	if e != api.OK {
		t.Fatalf("Spec(%d): error %d", n, e)
	}
	return s
}

func trial(t *testing.T, n int) locktest.Trial {
	t.Helper()
	return locktest.Trial{Spec: spec(t, n), Threads: n, Join: 3, Have: 3, Alone: 4, Check: checkCells}
}

func wantFine(t *testing.T, n int, err error) {
	t.Helper()
	if err != nil {
		t.Fatalf("%d threads: %v", n, err)
	}
}

// P16.1

func TestProgram(t *testing.T) {
	wantFine(t, 1, locktest.Program(Text, chapter, chapterCode))
}

func TestSpec(t *testing.T) {
	wantFine(t, api.MaxThreads, locktest.Specs(Spec, chapterSpec))
}

// The cells of the fewest threads, of the chapter's example, and of the most.
func TestCells(t *testing.T) {
	most := make([]uint32, 66)
	most[0], most[65] = 128, 1
	for n, cells := range map[int][]uint32{1: {2, 0, 1}, 2: {4, 0, 0, 1}, 3: {6, 0, 0, 0, 1}, 64: most} {
		want := chapterSpec(n)
		want.Init = cells
		wantFine(t, n, locktest.Alike(spec(t, n), want))
	}
}

// P16.2: steps told one by one

func began() exec.Out  { return exec.Out{Done: -1, Addr: -1} }
func joined() exec.Out { return exec.Out{Marks: []int{api.Enq}, Done: -1, Addr: 0, Wrote: true} }

// The others have their access to a flag.
func noted(flag int) exec.Out { return exec.Out{Done: -1, Addr: 1 + flag} }
func stays(flag int) exec.Out { return exec.Out{Done: -1, Addr: 1 + flag, Stay: true} }
func granted(flag int) exec.Out {
	return exec.Out{Marks: []int{api.Grant}, Done: api.Acquired, Addr: 1 + flag}
}
func turned(flag int) exec.Out {
	return exec.Out{Marks: []int{api.Release}, Done: api.Released, Addr: 1 + flag, Wrote: true}
}

func words(l ...uint32) []uint32 { return l }

// registers are those from 1 on.
func registers(l ...uint32) (r [api.Registers]uint32) {
	copy(r[1:], l)
	return r
}

// told is what a thread does next, what that comes to, and how all stands behind it: all cells, and the thread's registers from 1 on.
func told(thread, how int, out exec.Out, l []uint32, r ...uint32) locktest.Told {
	return locktest.Told{Thread: thread, How: how, Out: out, Words: l, R: registers(r...)}
}

// doTold does what is told on a new lock at work. (Whoever waits may be late or not.)
func doTold(t *testing.T, n int, l []locktest.Told) {
	t.Helper()
	for _, late := range []bool{false, true} {
		wantFine(t, n, locktest.DoTold(spec(t, n), n, late, l))
	}
}

// First it finds nobody's name, then its own, with the flag as it was ahead of its last unlock.
func TestOneThread(t *testing.T) {
	doTold(t, 1, []locktest.Told{
		told(0, locktest.Locks, began(), words(2, 0, 1)),
		told(0, locktest.Steps, noted(0), words(2, 0, 1)),
		told(0, locktest.Steps, joined(), words(0, 0, 1), 0, 0, 0, 2, 0, 1),
		told(0, locktest.Steps, granted(1), words(0, 0, 1), 0, 0, 0, 1, 0, 1),
		told(0, locktest.Unlocks, began(), words(0, 0, 1), 0, 0, 1, 1, 0, 1),
		told(0, locktest.Steps, turned(0), words(0, 1, 1), 0, 0, 1, 1, 0, 1),
		told(0, locktest.Locks, began(), words(0, 1, 1), 0, 0, 1, 1, 0, 1),
		told(0, locktest.Steps, noted(0), words(0, 1, 1), 0, 1, 1, 1, 0, 1),
		told(0, locktest.Steps, joined(), words(1, 1, 1), 0, 1, 1, 0, 0, 0),
		told(0, locktest.Steps, granted(0), words(1, 1, 1), 0, 1, 1, 1, 0, 0),
		told(0, locktest.Unlocks, began(), words(1, 1, 1), 0, 1, 0, 1, 0, 0),
		told(0, locktest.Steps, turned(0), words(1, 0, 1), 0, 1, 0, 1, 0, 0),
		told(0, locktest.Locks, began(), words(1, 0, 1), 0, 1, 0, 1, 0, 0),
		told(0, locktest.Steps, noted(0), words(1, 0, 1), 0, 0, 0, 1, 0, 0),
		told(0, locktest.Steps, joined(), words(0, 0, 1), 0, 0, 0, 1, 1, 0),
		told(0, locktest.Steps, granted(0), words(0, 0, 1), 0, 0, 0, 0, 1, 0),
	})
}

// The third one of the ten examples: the thread 1 calls again at once, and waits for the thread 0, whose flag it noted as it came.
func TestWhoCallsAgainAtOnceWaitsForTheOneAhead(t *testing.T) {
	doTold(t, 2, []locktest.Told{
		told(1, locktest.Locks, began(), words(4, 0, 0, 1), 1),
		told(1, locktest.Steps, noted(1), words(4, 0, 0, 1), 1, 0, 2),
		told(0, locktest.Locks, began(), words(4, 0, 0, 1), 0),
		told(0, locktest.Steps, noted(0), words(4, 0, 0, 1), 0, 0, 0),
		told(1, locktest.Steps, joined(), words(2, 0, 0, 1), 1, 0, 2, 4, 0, 2),
		told(0, locktest.Steps, joined(), words(0, 0, 0, 1), 0, 0, 0, 2, 0, 1),
		told(0, locktest.Steps, stays(1), words(0, 0, 0, 1), 0, 0, 0, 0, 0, 1),
		told(1, locktest.Steps, granted(2), words(0, 0, 0, 1), 1, 0, 2, 1, 0, 2),
		told(0, locktest.Steps, stays(1), words(0, 0, 0, 1), 0, 0, 0, 0, 0, 1),
		told(1, locktest.Unlocks, began(), words(0, 0, 0, 1), 1, 0, 1, 1, 0, 2),
		told(0, locktest.Steps, stays(1), words(0, 0, 0, 1), 0, 0, 0, 0, 0, 1),
		told(1, locktest.Steps, turned(1), words(0, 0, 1, 1), 1, 0, 1, 1, 0, 2),
		told(1, locktest.Locks, began(), words(0, 0, 1, 1), 1, 0, 1, 1, 0, 2),
		told(1, locktest.Steps, noted(1), words(0, 0, 1, 1), 1, 1, 3, 1, 0, 2),
		told(1, locktest.Steps, joined(), words(3, 0, 1, 1), 1, 1, 3, 0, 0, 0),
		told(1, locktest.Steps, stays(0), words(3, 0, 1, 1), 1, 1, 3, 0, 0, 0),
		told(0, locktest.Steps, granted(1), words(3, 0, 1, 1), 0, 0, 0, 1, 0, 1),
		told(1, locktest.Steps, stays(0), words(3, 0, 1, 1), 1, 1, 3, 0, 0, 0),
		told(0, locktest.Unlocks, began(), words(3, 0, 1, 1), 0, 0, 1, 1, 0, 1),
		told(0, locktest.Steps, turned(0), words(3, 1, 1, 1), 0, 0, 1, 1, 0, 1),
		told(0, locktest.Locks, began(), words(3, 1, 1, 1), 0, 0, 1, 1, 0, 1),
		told(0, locktest.Steps, noted(0), words(3, 1, 1, 1), 0, 1, 1, 1, 0, 1),
		told(0, locktest.Steps, joined(), words(1, 1, 1, 1), 0, 1, 1, 3, 1, 1),
		told(0, locktest.Steps, stays(1), words(1, 1, 1, 1), 0, 1, 1, 1, 1, 1),
		told(1, locktest.Steps, granted(0), words(1, 1, 1, 1), 1, 1, 3, 1, 0, 0),
		told(1, locktest.Unlocks, began(), words(1, 1, 1, 1), 1, 1, 0, 1, 0, 0),
		told(1, locktest.Steps, turned(1), words(1, 1, 0, 1), 1, 1, 0, 1, 0, 0),
		told(0, locktest.Steps, granted(1), words(1, 1, 0, 1), 0, 1, 1, 0, 1, 1),
	})
}

// Who calls while nobody waits finds the name of the one who had the lock last.
func TestThreeThreadsOneBehindTheOther(t *testing.T) {
	doTold(t, 3, []locktest.Told{
		told(2, locktest.Locks, began(), words(6, 0, 0, 0, 1), 2),
		told(2, locktest.Steps, noted(2), words(6, 0, 0, 0, 1), 2, 0, 4),
		told(2, locktest.Steps, joined(), words(4, 0, 0, 0, 1), 2, 0, 4, 6, 0, 3),
		told(2, locktest.Steps, granted(3), words(4, 0, 0, 0, 1), 2, 0, 4, 1, 0, 3),
		told(2, locktest.Unlocks, began(), words(4, 0, 0, 0, 1), 2, 0, 1, 1, 0, 3),
		told(2, locktest.Steps, turned(2), words(4, 0, 0, 1, 1), 2, 0, 1, 1, 0, 3),
		told(0, locktest.Locks, began(), words(4, 0, 0, 1, 1)),
		told(0, locktest.Steps, noted(0), words(4, 0, 0, 1, 1)),
		told(0, locktest.Steps, joined(), words(0, 0, 0, 1, 1), 0, 0, 0, 4, 0, 2),
		told(0, locktest.Steps, granted(2), words(0, 0, 0, 1, 1), 0, 0, 0, 1, 0, 2),
		told(0, locktest.Unlocks, began(), words(0, 0, 0, 1, 1), 0, 0, 1, 1, 0, 2),
		told(0, locktest.Steps, turned(0), words(0, 1, 0, 1, 1), 0, 0, 1, 1, 0, 2),
		told(1, locktest.Locks, began(), words(0, 1, 0, 1, 1), 1),
		told(1, locktest.Steps, noted(1), words(0, 1, 0, 1, 1), 1, 0, 2),
		told(1, locktest.Steps, joined(), words(2, 1, 0, 1, 1), 1, 0, 2, 0, 0, 0),
		told(1, locktest.Steps, granted(0), words(2, 1, 0, 1, 1), 1, 0, 2, 1, 0, 0),
		told(2, locktest.Locks, began(), words(2, 1, 0, 1, 1), 2, 0, 1, 1, 0, 3),
		told(2, locktest.Steps, noted(2), words(2, 1, 0, 1, 1), 2, 1, 5, 1, 0, 3),
		told(2, locktest.Steps, joined(), words(5, 1, 0, 1, 1), 2, 1, 5, 2, 0, 1),
		told(2, locktest.Steps, stays(1), words(5, 1, 0, 1, 1), 2, 1, 5, 0, 0, 1),
	})
}

// P16.2: whoever does a step when

// Flags turn to and fro, so that all stands as it stood before again: behind 20 doings of one thread, 50 of two and 75 of three nothing new comes, so these are all their ways, however long.
func TestAllWays(t *testing.T) {
	for _, c := range []struct{ threads, doings, met int }{{1, 20, 20}, {1, 100, 20}, {2, 50, 1056}, {2, 100, 1056}, {3, 100, 96966}, {4, 20, 20765}} {
		met, err := locktest.AllWays(spec(t, c.threads), c.threads, c.doings)
		wantFine(t, c.threads, err)
		if met != c.met {
			t.Errorf("%d threads, %d doings: all stood in %d ways, want %d", c.threads, c.doings, met, c.met)
		}
	}
}

func TestLongMixedWays(t *testing.T) {
	for _, n := range []int{1, 2, 3, 4, 5, 8, 16, 63, 64} {
		for seed := range uint64(13) {
			r, err := locktest.Start(spec(t, n), n)
			wantFine(t, n, err)
			wantFine(t, n, r.Mixed(seed, 6000))
			if fit, ok := fifo.Check(n, r.Entries); !ok {
				t.Errorf("%d threads: %d of %d entries fit", n, fit, len(r.Entries))
			}
			wantFine(t, n, checkCells(r))
			if n <= 5 && trace.Count(r.Entries, trace.Over) < 80 {
				t.Errorf("%d threads: the lock was had %d times alone", n, trace.Count(r.Entries, trace.Over))
			}
		}
	}
}

// checkCells asks that each flag was turned as often as its thread released the lock, and that the tail is the name of the one who came last, with its flag as it was then.
func checkCells(r *locktest.Run) error {
	want := chapterSpec(r.Work.Threads())
	for _, x := range r.Entries {
		flag := &want.Init[1+x.Thread]
		switch x.Kind {
		case trace.Enq:
			want.Init[0] = uint32(x.Thread)*2 + *flag
		case trace.Release:
			*flag = 1 - *flag
		}
	}
	got := chapterSpec(r.Work.Threads())
	got.Init = r.Work.Words()
	return locktest.Alike(got, want)
}

// Each time they come in another order, so that each waits for some others, by both flags.
func TestAllWaitInTheOrderInWhichTheyCame(t *testing.T) {
	for _, n := range []int{1, 2, 3, 4, 7, 64} {
		wantFine(t, n, trial(t, n).InOrder())
	}
}

// Who calls first, and reads its flag first, but is the last one to put its name into the tail, is granted last.
func TestFirstInTheTailIsFirst(t *testing.T) {
	for _, n := range []int{1, 2, 3, 9, 64} {
		wantFine(t, n, trial(t, n).LastDoingFirst())
	}
}

// Who is behind has not looked yet, when the one ahead unlocks and calls again: its flag is turned once alone.
func TestWhoIsAheadCallsAgainAheadOfALook(t *testing.T) {
	for _, n := range []int{1, 2, 3, 5, 64} {
		wantFine(t, n, trial(t, n).AgainAtOnce())
	}
}

// P16.3: a thread calls, notes its flag, comes to its place, and looks; each of those ahead does three things at most: it looks, calls to unlock, and turns its flag.

func TestEachCallComesToItsEnd(t *testing.T) {
	for _, n := range []int{1, 2, 3, 4, 5, 8, 17, 63, 64} {
		wantFine(t, n, trial(t, n).EndsByTurns())
	}
}

func TestACallAloneBehindAll(t *testing.T) {
	for _, n := range []int{1, 2, 3, 64} {
		wantFine(t, n, trial(t, n).EndsAlone())
	}
}

// However all stand behind a mixed way: if they go on by turns, what they have begun comes to its end, and so do more calls.
func TestEachCallComesToItsEndBehindMixedWays(t *testing.T) {
	for _, n := range []int{1, 2, 3, 5, 16, 64} {
		wantFine(t, n, trial(t, n).EndsBehindMixedWays())
	}
}
