package clh

import (
	"fmt"
	"slices"
	"testing"

	"ropeline/api"
	"ropeline/exec"
	"ropeline/fifo"
	"ropeline/locktest"
	"ropeline/trace"
)

// chapter is the program's lines, once more.
var chapter = []string{
	"lock:",
	"const r1 1",
	"store 1 r7 r1",
	"swap r6 0 r0 r7",
	"mark 1",
	"await r1 1 r6 eq r0",
	"mark 2",
	"done 1",
	"unlock:",
	"store 1 r7 r0",
	"mark 4",
	"move r7 r6",
	"done 2",
}

// chapterCode is what they mean, told without layer 7: all Ops stand here as they are, not by their names.
var chapterCode = api.Code{
	L: []api.Inst{
		{Op: 1, D: 1, K: 1},
		{Op: 17, A: 1, S: 7, T: 1},
		{Op: 18, D: 6, A: 0, S: 0, T: 7},
		{Op: 12, K: 1},
		{Op: 21, D: 1, A: 1, S: 6, T: 0, K: 0, To: -1},
		{Op: 12, K: 2},
		{Op: 13, K: 1},
		{Op: 17, A: 1, S: 7, T: 0},
		{Op: 12, K: 4},
		{Op: 2, D: 7, S: 6},
		{Op: 13, K: 2},
	},
	Lock:   0,
	Unlock: 7,
}

// toTheTail is the place at which a thread puts its node, that is busy, into the tail.
const toTheTail = 2

// chapterSpec is the spec that the chapter says.
func chapterSpec(n int) api.Spec {
	s := api.Spec{Code: chapterCode, Sizes: []int{1, n + 1}, Init: []uint32{0, 0}}
	for t := range n {
		s.Init = append(s.Init, 0)
		s.R7 = append(s.R7, uint32(t)+1)
	}
	return s
}

func spec(t *testing.T, n int) api.Spec {
	t.Helper()
	s, e := Spec(n)
	if e != api.OK {
		t.Fatalf("Spec(%d): error %d", n, e)
	}
	return s
}

func trial(t *testing.T, n int) locktest.Trial {
	t.Helper()
	return locktest.Trial{Spec: spec(t, n), Threads: n, Join: 3, Have: 3, Alone: 4, Check: checkNodes}
}

func wantFine(t *testing.T, n int, err error) {
	t.Helper()
	if err != nil {
		t.Fatalf("%d threads: %v", n, err)
	}
}

// P17.1

func TestProgram(t *testing.T) {
	wantFine(t, 1, locktest.Program(Text, chapter, chapterCode))
}

func TestSpec(t *testing.T) {
	wantFine(t, api.MaxThreads, locktest.Specs(Spec, chapterSpec))
}

// Of the fewest threads, of some, and of the most: the nodes that they begin with, and how many there are.
func TestNodes(t *testing.T) {
	for n, own := range map[int][]uint32{1: {1}, 2: {1, 2}, 3: {1, 2, 3}} {
		if s := spec(t, n); !slices.Equal(s.R7, own) || !slices.Equal(s.Init, make([]uint32, n+2)) {
			t.Errorf("%d threads: the registers 7 are %v, the cells %v", n, s.R7, s.Init)
		}
	}
	if s := spec(t, 64); s.R7[0] != 1 || s.R7[63] != 64 || !slices.Equal(s.Sizes, []int{1, 65}) || len(s.Init) != 66 {
		t.Errorf("64 threads: the registers 7 are %v, the sizes %v, there are %d cells", s.R7, s.Sizes, len(s.Init))
	}
}

// P17.2: steps told one by one

func began() exec.Out  { return exec.Out{Done: -1, Addr: -1} }
func joined() exec.Out { return exec.Out{Marks: []int{api.Enq}, Done: -1, Addr: 0, Wrote: true} }

// The others have their access to a node.
func busied(node int) exec.Out { return exec.Out{Done: -1, Addr: 1 + node, Wrote: true} }
func stays(node int) exec.Out  { return exec.Out{Done: -1, Addr: 1 + node, Stay: true} }
func granted(node int) exec.Out {
	return exec.Out{Marks: []int{api.Grant}, Done: api.Acquired, Addr: 1 + node}
}
func left(node int) exec.Out {
	return exec.Out{Marks: []int{api.Release}, Done: api.Released, Addr: 1 + node, Wrote: true}
}

func words(l ...uint32) []uint32 { return l }

// told is what a thread does next, what that comes to, and how all stands behind it: all cells, and the thread's registers 1, 6 and 7.
func told(thread, how int, out exec.Out, l []uint32, r1, r6, r7 uint32) locktest.Told {
	return locktest.Told{Thread: thread, How: how, Out: out, Words: l, R: [api.Registers]uint32{1: r1, 6: r6, 7: r7}}
}

// doTold does what is told on a new lock at work. (Whoever waits may be late or not.)
func doTold(t *testing.T, n int, l []locktest.Told) {
	t.Helper()
	for _, late := range []bool{false, true} {
		wantFine(t, n, locktest.DoTold(spec(t, n), n, late, l))
	}
}

// The chapter's example: its node is 1, then 0, then 1.
func TestOneThread(t *testing.T) {
	doTold(t, 1, []locktest.Told{
		told(0, locktest.Locks, began(), words(0, 0, 0), 1, 0, 1),
		told(0, locktest.Steps, busied(1), words(0, 0, 1), 1, 0, 1),
		told(0, locktest.Steps, joined(), words(1, 0, 1), 1, 0, 1),
		told(0, locktest.Steps, granted(0), words(1, 0, 1), 0, 0, 1),
		told(0, locktest.Unlocks, began(), words(1, 0, 1), 0, 0, 1),
		told(0, locktest.Steps, left(1), words(1, 0, 0), 0, 0, 0),
		told(0, locktest.Locks, began(), words(1, 0, 0), 1, 0, 0),
		told(0, locktest.Steps, busied(0), words(1, 1, 0), 1, 0, 0),
		told(0, locktest.Steps, joined(), words(0, 1, 0), 1, 1, 0),
		told(0, locktest.Steps, granted(1), words(0, 1, 0), 0, 1, 0),
		told(0, locktest.Unlocks, began(), words(0, 1, 0), 0, 1, 0),
		told(0, locktest.Steps, left(0), words(0, 0, 0), 0, 1, 1),
		told(0, locktest.Locks, began(), words(0, 0, 0), 1, 1, 1),
		told(0, locktest.Steps, busied(1), words(0, 0, 1), 1, 1, 1),
		told(0, locktest.Steps, joined(), words(1, 0, 1), 1, 0, 1),
		told(0, locktest.Steps, granted(0), words(1, 0, 1), 0, 0, 1),
	})
}

// The fourth one of the ten examples: the thread 1 unlocks, goes on with the node 0, which was ahead, and calls again ahead of a look of the thread 0, which sees the node 2 all the same.
func TestWhoUnlocksGoesOnWithTheNodeThatWasAhead(t *testing.T) {
	doTold(t, 2, []locktest.Told{
		told(0, locktest.Locks, began(), words(0, 0, 0, 0), 1, 0, 1),
		told(0, locktest.Steps, busied(1), words(0, 0, 1, 0), 1, 0, 1),
		told(1, locktest.Locks, began(), words(0, 0, 1, 0), 1, 0, 2),
		told(1, locktest.Steps, busied(2), words(0, 0, 1, 1), 1, 0, 2),
		told(1, locktest.Steps, joined(), words(2, 0, 1, 1), 1, 0, 2),
		told(0, locktest.Steps, joined(), words(1, 0, 1, 1), 1, 2, 1),
		told(0, locktest.Steps, stays(2), words(1, 0, 1, 1), 1, 2, 1),
		told(1, locktest.Steps, granted(0), words(1, 0, 1, 1), 0, 0, 2),
		told(0, locktest.Steps, stays(2), words(1, 0, 1, 1), 1, 2, 1),
		told(1, locktest.Unlocks, began(), words(1, 0, 1, 1), 0, 0, 2),
		told(0, locktest.Steps, stays(2), words(1, 0, 1, 1), 1, 2, 1),
		told(1, locktest.Steps, left(2), words(1, 0, 1, 0), 0, 0, 0),
		told(1, locktest.Locks, began(), words(1, 0, 1, 0), 1, 0, 0),
		told(1, locktest.Steps, busied(0), words(1, 1, 1, 0), 1, 0, 0),
		told(1, locktest.Steps, joined(), words(0, 1, 1, 0), 1, 1, 0),
		told(1, locktest.Steps, stays(1), words(0, 1, 1, 0), 1, 1, 0),
		told(0, locktest.Steps, granted(2), words(0, 1, 1, 0), 0, 2, 1),
		told(1, locktest.Steps, stays(1), words(0, 1, 1, 0), 1, 1, 0),
		told(0, locktest.Unlocks, began(), words(0, 1, 1, 0), 0, 2, 1),
		told(0, locktest.Steps, left(1), words(0, 1, 0, 0), 0, 2, 2),
		told(0, locktest.Locks, began(), words(0, 1, 0, 0), 1, 2, 2),
		told(0, locktest.Steps, busied(2), words(0, 1, 0, 1), 1, 2, 2),
		told(0, locktest.Steps, joined(), words(2, 1, 0, 1), 1, 0, 2),
		told(0, locktest.Steps, stays(0), words(2, 1, 0, 1), 1, 0, 2),
		told(1, locktest.Steps, granted(1), words(2, 1, 0, 1), 0, 1, 0),
		told(1, locktest.Unlocks, began(), words(2, 1, 0, 1), 0, 1, 0),
		told(1, locktest.Steps, left(0), words(2, 0, 0, 1), 0, 1, 1),
		told(0, locktest.Steps, granted(0), words(2, 0, 0, 1), 0, 0, 2),
	})
}

// Who calls while nobody waits finds the node of the one who had the lock last, and takes it over.
func TestThreeThreadsOneBehindTheOther(t *testing.T) {
	doTold(t, 3, []locktest.Told{
		told(2, locktest.Locks, began(), words(0, 0, 0, 0, 0), 1, 0, 3),
		told(2, locktest.Steps, busied(3), words(0, 0, 0, 0, 1), 1, 0, 3),
		told(2, locktest.Steps, joined(), words(3, 0, 0, 0, 1), 1, 0, 3),
		told(2, locktest.Steps, granted(0), words(3, 0, 0, 0, 1), 0, 0, 3),
		told(2, locktest.Unlocks, began(), words(3, 0, 0, 0, 1), 0, 0, 3),
		told(2, locktest.Steps, left(3), words(3, 0, 0, 0, 0), 0, 0, 0),
		told(0, locktest.Locks, began(), words(3, 0, 0, 0, 0), 1, 0, 1),
		told(0, locktest.Steps, busied(1), words(3, 0, 1, 0, 0), 1, 0, 1),
		told(0, locktest.Steps, joined(), words(1, 0, 1, 0, 0), 1, 3, 1),
		told(0, locktest.Steps, granted(3), words(1, 0, 1, 0, 0), 0, 3, 1),
		told(1, locktest.Locks, began(), words(1, 0, 1, 0, 0), 1, 0, 2),
		told(1, locktest.Steps, busied(2), words(1, 0, 1, 1, 0), 1, 0, 2),
		told(1, locktest.Steps, joined(), words(2, 0, 1, 1, 0), 1, 1, 2),
		told(2, locktest.Locks, began(), words(2, 0, 1, 1, 0), 1, 0, 0),
		told(2, locktest.Steps, busied(0), words(2, 1, 1, 1, 0), 1, 0, 0),
		told(2, locktest.Steps, joined(), words(0, 1, 1, 1, 0), 1, 2, 0),
		told(1, locktest.Steps, stays(1), words(0, 1, 1, 1, 0), 1, 1, 2),
		told(2, locktest.Steps, stays(2), words(0, 1, 1, 1, 0), 1, 2, 0),
		told(0, locktest.Unlocks, began(), words(0, 1, 1, 1, 0), 0, 3, 1),
		told(0, locktest.Steps, left(1), words(0, 1, 0, 1, 0), 0, 3, 3),
		told(2, locktest.Steps, stays(2), words(0, 1, 0, 1, 0), 1, 2, 0),
		told(1, locktest.Steps, granted(1), words(0, 1, 0, 1, 0), 0, 1, 2),
		told(1, locktest.Unlocks, began(), words(0, 1, 0, 1, 0), 0, 1, 2),
		told(1, locktest.Steps, left(2), words(0, 1, 0, 0, 0), 0, 1, 1),
		told(2, locktest.Steps, granted(2), words(0, 1, 0, 0, 0), 0, 2, 0),
		told(2, locktest.Unlocks, began(), words(0, 1, 0, 0, 0), 0, 2, 0),
		told(2, locktest.Steps, left(0), words(0, 0, 0, 0, 0), 0, 2, 2),
	})
}

// P17.2: whoever does a step when

// Nodes go round, so that all stands as it stood before again: behind 14 doings of one thread, 40 of two and 60 of three nothing new comes, so these are all their ways, however long.
func TestAllWays(t *testing.T) {
	for _, c := range []struct{ threads, doings, met int }{{1, 14, 14}, {1, 100, 14}, {2, 40, 278}, {2, 100, 278}, {3, 60, 6452}, {3, 100, 6452}, {4, 24, 27094}} {
		met, err := locktest.AllWays(spec(t, c.threads), c.threads, c.doings)
		wantFine(t, c.threads, err)
		if met != c.met {
			t.Errorf("%d threads, %d doings: all stood in %d ways, want %d", c.threads, c.doings, met, c.met)
		}
	}
}

func TestLongMixedWays(t *testing.T) {
	for _, n := range []int{1, 2, 3, 4, 5, 8, 16, 63, 64} {
		for seed := range uint64(13) {
			r, err := locktest.Start(spec(t, n), n)
			wantFine(t, n, err)
			wantFine(t, n, r.Mixed(seed, 6000))
			if fit, ok := fifo.Check(n, r.Entries); !ok {
				t.Errorf("%d threads: %d of %d entries fit", n, fit, len(r.Entries))
			}
			wantFine(t, n, checkNodes(r))
			if n <= 5 && trace.Count(r.Entries, trace.Over) < 80 {
				t.Errorf("%d threads: the lock was had %d times alone", n, trace.Count(r.Entries, trace.Over))
			}
		}
	}
}

// checkNodes asks that the tail is the node of the one who came last, that a thread's own node is the one that was ahead once it released the lock, and that just those are busy whose threads are on their way to the tail or haven't released the lock.
func checkNodes(r *locktest.Run) error {
	want := chapterSpec(r.Work.Threads())
	own, ahead := want.R7, make([]uint32, len(want.R7))
	for _, x := range r.Entries {
		node := &want.Init[1+own[x.Thread]]
		switch x.Kind {
		case trace.Enq:
			*node, ahead[x.Thread], want.Init[0] = 1, want.Init[0], own[x.Thread]
		case trace.Release:
			*node, own[x.Thread] = 0, ahead[x.Thread]
		}
	}
	got := chapterSpec(len(own))
	got.Init = r.Work.Words()
	for t := range own {
		core := r.Work.Core(t)
		if core.Pc == toTheTail {
			want.Init[1+own[t]] = 1
		}
		got.R7[t] = core.R[7]
		if core.R[6] != ahead[t] {
			return fmt.Errorf("ahead of the thread %d was %d, want %d", t, core.R[6], ahead[t])
		}
	}
	return locktest.Alike(got, want)
}

// Each time they come in another order, with other nodes, so that each waits for some others.
func TestAllWaitInTheOrderInWhichTheyCame(t *testing.T) {
	for _, n := range []int{1, 2, 3, 4, 7, 64} {
		wantFine(t, n, trial(t, n).InOrder())
	}
}

// Who calls first, and makes its node busy first, but is the last one to put it into the tail, is granted last.
func TestFirstInTheTailIsFirst(t *testing.T) {
	for _, n := range []int{1, 2, 3, 9, 64} {
		wantFine(t, n, trial(t, n).LastDoingFirst())
	}
}

// Who is behind has not looked yet, when the one ahead unlocks and calls again: with another node, so the one that is looked at isn't busy again.
func TestWhoIsAheadCallsAgainAheadOfALook(t *testing.T) {
	for _, n := range []int{1, 2, 3, 5, 64} {
		wantFine(t, n, trial(t, n).AgainAtOnce())
	}
}

// P17.3: a thread calls, makes its node busy, comes to its place, and looks; each of those ahead does three things at most: it looks, calls to unlock, and makes its node not busy.

func TestEachCallComesToItsEnd(t *testing.T) {
	for _, n := range []int{1, 2, 3, 4, 5, 8, 17, 63, 64} {
		wantFine(t, n, trial(t, n).EndsByTurns())
	}
}

func TestACallAloneBehindAll(t *testing.T) {
	for _, n := range []int{1, 2, 3, 64} {
		wantFine(t, n, trial(t, n).EndsAlone())
	}
}

// However all stand behind a mixed way: if they go on by turns, what they have begun comes to its end, and so do more calls.
func TestEachCallComesToItsEndBehindMixedWays(t *testing.T) {
	for _, n := range []int{1, 2, 3, 5, 16, 64} {
		wantFine(t, n, trial(t, n).EndsBehindMixedWays())
	}
}
