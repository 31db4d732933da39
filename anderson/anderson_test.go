package anderson

import (
	"fmt"
	"slices"
	"strings"
	"testing"

	"ropeline/api"
	"ropeline/asm"
	"ropeline/exec"
	"ropeline/fifo"
	"ropeline/locktest"
	"ropeline/trace"
)

const top = 1<<32 - 1 // the greatest word

// chapter is the program's lines, once more; N stands for slots less 1.
var chapter = []string{
	"lock:",
	"fadd r1 0 r0 1",
	"mark 1",
	"andk r2 r1 N",
	"const r3 1",
	"await r4 1 r2 eq r3",
	"mark 2",
	"store 1 r2 r0",
	"done 1",
	"unlock:",
	"addk r2 r1 1",
	"andk r2 r2 N",
	"const r3 1",
	"store 1 r2 r3",
	"mark 4",
	"done 2",
}

func chapterText(slots int) string {
	return strings.ReplaceAll(strings.Join(chapter, "\n")+"\n", "N", fmt.Sprint(slots-1))
}

// chapterCode is what they mean, told without layer 7: all Ops stand here as they are, not by their names.
func chapterCode(slots int) api.Code {
	least := uint32(slots) - 1
	return api.Code{
		L: []api.Inst{
			{Op: 20, D: 1, A: 0, S: 0, K: 1},
			{Op: 12, K: 1},
			{Op: 4, D: 2, S: 1, K: least},
			{Op: 1, D: 3, K: 1},
			{Op: 21, D: 4, A: 1, S: 2, T: 3, K: 0, To: -1},
			{Op: 12, K: 2},
			{Op: 17, A: 1, S: 2, T: 0},
			{Op: 13, K: 1},
			{Op: 3, D: 2, S: 1, K: 1},
			{Op: 4, D: 2, S: 2, K: least},
			{Op: 1, D: 3, K: 1},
			{Op: 17, A: 1, S: 2, T: 3},
			{Op: 12, K: 4},
			{Op: 13, K: 2},
		},
		Lock:   0,
		Unlock: 8,
	}
}

// starts are numbers at which numbers begin; from the last ones on they go round.
var starts = locktest.Starts()

// powers are the numbers of slots that may be.
var powers = []int{1, 2, 4, 8, 16, 32, 64}

// config is what Spec is asked for.
type config struct {
	n, slots int
	start    uint32
}

func (c config) String() string {
	return fmt.Sprintf("%d threads, %d slots, from %d on", c.n, c.slots, c.start)
}

// configs is each number of slots that may be, and each of the starts, for so many threads.
func configs(threads ...int) []config {
	var l []config
	for _, n := range threads {
		for _, slots := range enough(n) {
			for _, start := range starts {
				l = append(l, config{n, slots, start})
			}
		}
	}
	return l
}

// enough is the numbers of slots that may be for so many threads.
func enough(n int) []int {
	return slices.DeleteFunc(slices.Clone(powers), func(slots int) bool { return slots < n })
}

// lowest is a number's slot, worked out by what is left of a division.
func (c config) lowest(number uint32) int { return int(number % uint32(c.slots)) }

// cells is all of them: the next number, and the slots, of which that of turn is 1, or none is.
func (c config) cells(next, turn uint32, open bool) []uint32 {
	l := make([]uint32, c.slots+1)
	l[0] = next
	if open {
		l[1+c.lowest(turn)] = 1
	}
	return l
}

func (c config) spec(t *testing.T) api.Spec {
	t.Helper()
	s, e := Spec(c.n, c.slots, c.start)
	if e != api.OK {
		t.Fatalf("%v: error %d", c, e)
	}
	return s
}

func (c config) started(t *testing.T) *locktest.Run {
	t.Helper()
	r, err := locktest.Start(c.spec(t), c.n)
	wantFine(t, c, err)
	return r
}

// chapterSpec is the spec that the chapter says.
func (c config) chapterSpec() api.Spec {
	return api.Spec{Code: chapterCode(c.slots), Sizes: []int{1, c.slots}, Init: c.cells(c.start, c.start, true), R7: make([]uint32, c.n)}
}

func wantSpec(t *testing.T, c config) {
	t.Helper()
	wantFine(t, c, locktest.Alike(c.spec(t), c.chapterSpec()))
}

func wantFine(t *testing.T, c config, err error) {
	t.Helper()
	if err != nil {
		t.Fatalf("%v: %v", c, err)
	}
}

// P15.1

func TestText(t *testing.T) {
	for slots := 1; slots <= api.MaxSlots; slots++ {
		for range 2 {
			if got, want := Text(slots), chapterText(slots); got != want {
				t.Errorf("Text(%d) = %q, want %q", slots, got, want)
			}
		}
	}
}

func TestTextHasSlotsLess1InDigits(t *testing.T) {
	for slots, digits := range map[int]string{1: "0", 2: "1", 3: "2", 4: "3", 8: "7", 10: "9", 11: "10", 16: "15", 32: "31", 63: "62", 64: "63"} {
		s := Text(slots)
		if strings.Count(s, "andk r2 r1 "+digits+"\n") != 1 || strings.Count(s, "andk r2 r2 "+digits+"\n") != 1 || strings.Contains(s, "MASK") {
			t.Errorf("Text(%d) = %q", slots, s)
		}
	}
}

// Of these nothing is promised but an end.
func TestTextEndsOfWhatIsLeftOut(t *testing.T) {
	for _, slots := range locktest.WrongSizes() {
		Text(slots)
	}
}

func TestTheCodeIsTheTextAssembled(t *testing.T) {
	for _, slots := range powers {
		code, line, e := asm.Assemble(Text(slots))
		if e != api.OK || line != 0 || !asm.Same(code, chapterCode(slots)) {
			t.Errorf("Assemble(Text(%d)) = %+v, line %d, error %d, want %+v", slots, code, line, e, chapterCode(slots))
		}
		if s := (config{1, slots, 0}).spec(t); !asm.Same(s.Code, code) || !asm.Right(s.Code) {
			t.Errorf("of %d slots the spec's code is %+v, want %+v", slots, s.Code, code)
		}
	}
}

func TestSpec(t *testing.T) {
	for n := 1; n <= api.MaxThreads; n++ {
		for _, c := range configs(n) {
			wantSpec(t, c)
		}
	}
}

func TestEachSlotCanBeTheFirst(t *testing.T) {
	for _, slots := range powers {
		for first := range 2 * slots {
			for _, start := range []uint32{uint32(first), 1<<31 + uint32(first), uint32(0) - uint32(first)} {
				c := config{1, slots, start}
				wantSpec(t, c)
			}
		}
	}
}

func TestExampleOfTheChapter(t *testing.T) {
	for n := 1; n <= 4; n++ {
		s := config{n, 4, 5}.spec(t)
		if !slices.Equal(s.Init, []uint32{5, 0, 1, 0, 0}) {
			t.Errorf("%d threads: the cells are %v", n, s.Init)
		}
	}
}

func TestSpecIsALocks(t *testing.T) {
	for _, c := range configs(1, 2, 3, 4, 5, 33, 63, 64) {
		s := c.spec(t)
		if !exec.Right(s, c.n) || exec.Right(s, c.n-1) || exec.Right(s, c.n+1) {
			t.Errorf("%v: it may be: %v, for one less: %v, for one more: %v", c, exec.Right(s, c.n), exec.Right(s, c.n-1), exec.Right(s, c.n+1))
		}
	}
}

func wantRefused(t *testing.T, n, slots int) {
	t.Helper()
	for _, start := range starts {
		s, e := Spec(n, slots, start)
		if e != api.ErrConfig {
			t.Errorf("Spec(%d, %d, %d): error %d, want %d", n, slots, start, e, api.ErrConfig)
		}
		wantFine(t, config{n, slots, start}, locktest.Alike(s, api.Spec{}))
	}
}

func TestThreadsThatMayNotBeAreRefused(t *testing.T) {
	for _, n := range locktest.WrongSizes() {
		for _, slots := range append(slices.Clone(powers), n) {
			wantRefused(t, n, slots)
		}
	}
}

func TestSlotsThatMayNotBeAreRefused(t *testing.T) {
	for _, n := range []int{1, 2, 3, 64} {
		for slots := range 300 {
			if !slices.Contains(powers, slots) {
				wantRefused(t, n, slots)
			}
		}
		for _, slots := range locktest.WrongSizes() {
			wantRefused(t, n, slots)
		}
		for up := 7; up < 63; up++ {
			wantRefused(t, n, 1<<up)
			wantRefused(t, n, -1<<up)
		}
	}
}

// Slots are enough, if each thread can have one; the second one of the ten examples is among these.
func TestTooFewSlotsAreRefused(t *testing.T) {
	for n := 1; n <= api.MaxThreads; n++ {
		for _, slots := range powers {
			if slots < n {
				wantRefused(t, n, slots)
				continue
			}
			c := config{n, slots, 0}
			wantSpec(t, c)
		}
	}
}

func TestThreeThreadsAskForFourSlotsOrMore(t *testing.T) {
	for _, slots := range []int{1, 2, 3, 5, 6, 7} {
		wantRefused(t, 3, slots)
	}
	for _, slots := range []int{4, 8} {
		if s, e := Spec(3, slots, 0); e != api.OK || !slices.Equal(s.Sizes, []int{1, slots}) {
			t.Errorf("%d slots: sizes %v, error %d", slots, s.Sizes, e)
		}
	}
}

func TestWhatIsAnsweredIsItsOwn(t *testing.T) {
	for _, c := range configs(1, 2, 63, 64) {
		wantFine(t, c, locktest.Own(c.chapterSpec(), func() api.Spec { return c.spec(t) }))
	}
}

// P15.2: steps told one by one

func began() exec.Out { return exec.Out{Done: -1, Addr: -1} }
func drew() exec.Out  { return exec.Out{Marks: []int{api.Enq}, Done: -1, Addr: 0, Wrote: true} }

// The others have their access to a slot.
func stays(slot int) exec.Out   { return exec.Out{Done: -1, Addr: 1 + slot, Stay: true} }
func granted(slot int) exec.Out { return exec.Out{Marks: []int{api.Grant}, Done: -1, Addr: 1 + slot} }
func shut(slot int) exec.Out    { return exec.Out{Done: api.Acquired, Addr: 1 + slot, Wrote: true} }
func opened(slot int) exec.Out {
	return exec.Out{Marks: []int{api.Release}, Done: api.Released, Addr: 1 + slot, Wrote: true}
}

// told is what a thread does next, what that comes to, and how all stands behind it: all cells, and the thread's registers 1 to 4.
func told(thread, how int, out exec.Out, cells []uint32, r1, r2, r3, r4 uint32) locktest.Told {
	return locktest.Told{Thread: thread, How: how, Out: out, Words: cells, R: [8]uint32{1: r1, 2: r2, 3: r3, 4: r4}}
}

// doTold does what is told on a new lock at work. (Whoever waits may be late or not.)
func doTold(t *testing.T, c config, l []locktest.Told) {
	t.Helper()
	for _, late := range []bool{false, true} {
		wantFine(t, c, locktest.DoTold(c.spec(t), c.n, late, l))
	}
}

func TestOneThread(t *testing.T) {
	for _, c := range configs(1) {
		number := c.start
		var l []locktest.Told
		var r [api.Registers]uint32
		for range 2*c.slots + 1 {
			slot, next := c.lowest(number), c.lowest(number+1)
			l = append(l,
				told(0, locktest.Locks, began(), c.cells(number, number, true), r[1], r[2], r[3], r[4]),
				told(0, locktest.Steps, drew(), c.cells(number+1, number, true), number, uint32(slot), 1, r[4]),
				told(0, locktest.Steps, granted(slot), c.cells(number+1, number, true), number, uint32(slot), 1, 1),
				told(0, locktest.Steps, shut(slot), c.cells(number+1, 0, false), number, uint32(slot), 1, 1),
				told(0, locktest.Unlocks, began(), c.cells(number+1, 0, false), number, uint32(next), 1, 1),
				told(0, locktest.Steps, opened(next), c.cells(number+1, number+1, true), number, uint32(next), 1, 1),
			)
			number, r = number+1, l[len(l)-1].R
		}
		doTold(t, c, l)
	}
}

// The second thread waits for the slot 0, the first one, that called again, for the slot 1 once more.
func TestTwoThreadsWhoseNumbersGoRound(t *testing.T) {
	cells := func(l ...uint32) []uint32 { return l }
	doTold(t, config{2, 2, top}, []locktest.Told{
		told(0, locktest.Locks, began(), cells(top, 0, 1), 0, 0, 0, 0),
		told(1, locktest.Locks, began(), cells(top, 0, 1), 0, 0, 0, 0),
		told(1, locktest.Steps, drew(), cells(0, 0, 1), top, 1, 1, 0),
		told(0, locktest.Steps, drew(), cells(1, 0, 1), 0, 0, 1, 0),
		told(0, locktest.Steps, stays(0), cells(1, 0, 1), 0, 0, 1, 0),
		told(1, locktest.Steps, granted(1), cells(1, 0, 1), top, 1, 1, 1),
		told(0, locktest.Steps, stays(0), cells(1, 0, 1), 0, 0, 1, 0),
		told(1, locktest.Steps, shut(1), cells(1, 0, 0), top, 1, 1, 1),
		told(1, locktest.Unlocks, began(), cells(1, 0, 0), top, 0, 1, 1),
		told(0, locktest.Steps, stays(0), cells(1, 0, 0), 0, 0, 1, 0),
		told(1, locktest.Steps, opened(0), cells(1, 1, 0), top, 0, 1, 1),
		told(1, locktest.Locks, began(), cells(1, 1, 0), top, 0, 1, 1),
		told(1, locktest.Steps, drew(), cells(2, 1, 0), 1, 1, 1, 1),
		told(1, locktest.Steps, stays(1), cells(2, 1, 0), 1, 1, 1, 0),
		told(0, locktest.Steps, granted(0), cells(2, 1, 0), 0, 0, 1, 1),
		told(0, locktest.Steps, shut(0), cells(2, 0, 0), 0, 0, 1, 1),
		told(0, locktest.Unlocks, began(), cells(2, 0, 0), 0, 1, 1, 1),
		told(0, locktest.Steps, opened(1), cells(2, 0, 1), 0, 1, 1, 1),
		told(1, locktest.Steps, granted(1), cells(2, 0, 1), 1, 1, 1, 1),
	})
}

// Three threads have four slots, of which one is nobody's: the numbers 5 to 8 have the slots 1, 2, 3, 0.
func TestThreeThreadsWithFourSlots(t *testing.T) {
	cells := func(l ...uint32) []uint32 { return l }
	doTold(t, config{3, 4, 5}, []locktest.Told{
		told(2, locktest.Locks, began(), cells(5, 0, 1, 0, 0), 0, 0, 0, 0),
		told(2, locktest.Steps, drew(), cells(6, 0, 1, 0, 0), 5, 1, 1, 0),
		told(0, locktest.Locks, began(), cells(6, 0, 1, 0, 0), 0, 0, 0, 0),
		told(0, locktest.Steps, drew(), cells(7, 0, 1, 0, 0), 6, 2, 1, 0),
		told(1, locktest.Locks, began(), cells(7, 0, 1, 0, 0), 0, 0, 0, 0),
		told(1, locktest.Steps, drew(), cells(8, 0, 1, 0, 0), 7, 3, 1, 0),
		told(2, locktest.Steps, granted(1), cells(8, 0, 1, 0, 0), 5, 1, 1, 1),
		told(2, locktest.Steps, shut(1), cells(8, 0, 0, 0, 0), 5, 1, 1, 1),
		told(1, locktest.Steps, stays(3), cells(8, 0, 0, 0, 0), 7, 3, 1, 0),
		told(2, locktest.Unlocks, began(), cells(8, 0, 0, 0, 0), 5, 2, 1, 1),
		told(2, locktest.Steps, opened(2), cells(8, 0, 0, 1, 0), 5, 2, 1, 1),
		told(2, locktest.Locks, began(), cells(8, 0, 0, 1, 0), 5, 2, 1, 1),
		told(2, locktest.Steps, drew(), cells(9, 0, 0, 1, 0), 8, 0, 1, 1),
		told(2, locktest.Steps, stays(0), cells(9, 0, 0, 1, 0), 8, 0, 1, 0),
		told(1, locktest.Steps, stays(3), cells(9, 0, 0, 1, 0), 7, 3, 1, 0),
		told(0, locktest.Steps, granted(2), cells(9, 0, 0, 1, 0), 6, 2, 1, 1),
		told(0, locktest.Steps, shut(2), cells(9, 0, 0, 0, 0), 6, 2, 1, 1),
		told(0, locktest.Unlocks, began(), cells(9, 0, 0, 0, 0), 6, 3, 1, 1),
		told(0, locktest.Steps, opened(3), cells(9, 0, 0, 0, 1), 6, 3, 1, 1),
		told(2, locktest.Steps, stays(0), cells(9, 0, 0, 0, 1), 8, 0, 1, 0),
		told(1, locktest.Steps, granted(3), cells(9, 0, 0, 0, 1), 7, 3, 1, 1),
		told(1, locktest.Steps, shut(3), cells(9, 0, 0, 0, 0), 7, 3, 1, 1),
		told(1, locktest.Unlocks, began(), cells(9, 0, 0, 0, 0), 7, 0, 1, 1),
		told(1, locktest.Steps, opened(0), cells(9, 1, 0, 0, 0), 7, 0, 1, 1),
		told(2, locktest.Steps, granted(0), cells(9, 1, 0, 0, 0), 8, 0, 1, 1),
	})
}

// P15.2: whoever does a step when

func TestAllWays(t *testing.T) {
	for _, c := range []struct {
		threads, doings int
		slots           []int
	}{{1, 60, []int{1, 2, 4, 64}}, {2, 44, []int{2, 4, 8}}, {3, 22, []int{4, 8}}, {4, 15, []int{4, 8}}} {
		for _, slots := range c.slots {
			for _, start := range []uint32{0, top - 1, top} {
				its := config{c.threads, slots, start}
				met, err := locktest.AllWays(its.spec(t), c.threads, c.doings)
				wantFine(t, its, err)
				if met < 60 || c.threads > 1 && met < 500 {
					t.Errorf("%v: all stood in %d ways alone", its, met)
				}
			}
		}
	}
}

func TestLongMixedWays(t *testing.T) {
	for k, c := range configs(1, 2, 3, 4, 5, 8, 16, 63, 64) {
		r := c.started(t)
		wantFine(t, c, r.Mixed(uint64(k), 4000))
		if fit, ok := fifo.Check(c.n, r.Entries); !ok {
			t.Errorf("%v: %d of %d entries fit", c, fit, len(r.Entries))
		}
		checkCells(t, c, r)
		if c.n <= 5 && trace.Count(r.Entries, trace.Over) < 50 {
			t.Errorf("%v: the lock was had %d times alone", c, trace.Count(r.Entries, trace.Over))
		}
	}
}

// checkCells asks that the cells are what was drawn, and whose turn it is, if nobody took it.
func checkCells(t *testing.T, c config, r *locktest.Run) {
	t.Helper()
	drawn, took, released := trace.Count(r.Entries, trace.Enq), trace.Count(r.Entries, trace.Got), trace.Count(r.Entries, trace.Release)
	want := c.cells(c.start+uint32(drawn), c.start+uint32(released), took == released)
	if w := r.Work.Words(); !slices.Equal(w, want) {
		t.Errorf("%v: the cells are %v, want %v", c, w, want)
	}
}

// All draw ahead of the first unlock, so that numbers, and slots, go round while threads wait, between each two of them for some start.
func TestNumbersGoRoundWhileThreadsWait(t *testing.T) {
	for _, n := range []int{2, 3, 4, 7, 64} {
		for _, slots := range enough(n) {
			for ahead := range n + 1 {
				c := config{n, slots, uint32(0) - uint32(ahead)}
				r, come := c.started(t), locktest.Shuffled(n, uint64(ahead))
				for _, thread := range come {
					wantFine(t, c, r.DoTimes(thread, 2))
				}
				wantServed(t, c, r, come)
			}
		}
	}
}

// wantServed asks that those who wait have the lock in that order.
func wantServed(t *testing.T, c config, r *locktest.Run, come []int) {
	t.Helper()
	for turn := range come {
		wantFine(t, c, r.Serve(come[turn:], 4))
		checkCells(t, c, r)
	}
}

// Who calls first, but draws last, is granted last.
func TestFirstToDrawIsFirst(t *testing.T) {
	for _, c := range configs(9) {
		r, come := c.started(t), locktest.Shuffled(9, 4)
		for thread := range c.n {
			wantFine(t, c, r.DoTimes(thread, 1))
		}
		for _, thread := range come {
			wantFine(t, c, r.DoTimes(thread, 1))
		}
		wantServed(t, c, r, come)
	}
}

// With as many slots as threads, who unlocks and calls again waits for the very slot that it had.
func TestAgainBehindAllOthers(t *testing.T) {
	for _, n := range []int{2, 4, 8, 64} {
		for _, start := range starts {
			c := config{n, n, start}
			r, come := c.started(t), locktest.Shuffled(n, uint64(n))
			for _, thread := range come {
				wantFine(t, c, r.DoTimes(thread, 2))
			}
			for range 2*n + 1 {
				first := come[0]
				wantFine(t, c, r.DoTimes(first, 4+2))
				come = append(come[1:], first)
			}
			wantServed(t, c, r, come)
		}
	}
}

// P15.3

// Behind the call and the draw, each of those ahead does four things at most: it sees its slot, shuts it, calls to unlock, and opens the next one.
func longestCall(n int, order []int) int { return 4 * n * locktest.Most(order) }

func TestEachCallComesToItsEnd(t *testing.T) {
	for _, c := range configs(1, 2, 3, 4, 5, 8, 17, 63, 64) {
		for _, order := range locktest.Orders(c.n) {
			r := c.started(t)
			wantFine(t, c, r.Turns(order, 3, longestCall(c.n, order)))
			checkServed(t, c, 3, r)
		}
	}
}

// checkServed asks that each thread had the lock so many times, and that nothing is left to be done.
func checkServed(t *testing.T, c config, calls int, r *locktest.Run) {
	t.Helper()
	wantFine(t, c, r.Served(calls))
	next := c.start + uint32(c.n*calls)
	if w := r.Work.Words(); !slices.Equal(w, c.cells(next, next, true)) {
		t.Errorf("%v: in the end the cells are %v, the next number is %d", c, w, next)
	}
}

func TestACallAloneBehindAll(t *testing.T) {
	for _, c := range configs(1, 2, 3, 64) {
		r := c.started(t)
		wantFine(t, c, r.Turns(locktest.Shuffled(c.n, 3), 3, 4*c.n))
		for thread := range c.n {
			wantFine(t, c, r.Turns([]int{thread}, 1, 4))
		}
		checkServed(t, c, 4, r)
	}
}

// However all stand behind a mixed way: if they go on by turns, what they have begun comes to its end, and so do more calls.
func TestEachCallComesToItsEndBehindMixedWays(t *testing.T) {
	for k, c := range configs(1, 2, 3, 5, 16, 64) {
		r := c.started(t)
		wantFine(t, c, r.Mixed(uint64(k), 20*c.n+k))
		wantFine(t, c, r.Turns(locktest.Shuffled(c.n, uint64(k)), 2, 4*c.n))
		if got, over := trace.Count(r.Entries, trace.Call), trace.Count(r.Entries, trace.Over); got != over {
			t.Errorf("%v: of %d calls %d are over", c, got, over)
		}
		checkCells(t, c, r)
	}
}
