package locktest

import (
	"math"
	"slices"
	"strings"
	"testing"

	"ropeline/api"
	"ropeline/asm"
	"ropeline/fifo"
	"ropeline/trace"
)

// right is a lock that does what it should: numbers are drawn and called.
const right = `lock:
fadd r1 0 r0 1
mark 1
await r2 1 r0 eq r1
mark 2
done 1
unlock:
fadd r2 1 r0 1
mark 4
done 2
`

// leaving is one that may be left, of some sixty calls: the cell of a number is 2, if it is called, and 1, if who drew it has left.
const leaving = `lock:
fadd r1 0 r0 1
mark 1
const r2 9
const r3 2
await r2 2 r1 eq r3 else leave
got:
mark 2
done 1
leave:
const r4 1
cas r5 2 r1 r0 r4
beq r5 r0 got
mark 3
done 0
unlock:
addk r1 r1 1
cas r5 2 r1 r0 r3
beq r5 r0 unlock
mark 4
done 2
`

// alone is one for one thread, of which nothing asks a cell.
const alone = "lock:\nmark 1\nmark 2\ndone 1\nunlock:\nmark 4\ndone 2\n"

// noFit is what is told where the abstract lock doesn't take an entry.
const noFit = "doesn't fit"

func specOf(t *testing.T, text string, threads int) api.Spec {
	t.Helper()
	code, line, e := asm.Assemble(text)
	if e != api.OK {
		t.Fatalf("Assemble(%q): line %d, error %d", text, line, e)
	}
	return api.Spec{Code: code, Sizes: []int{1, 1, 64}, Init: append([]uint32{0, 0, 2}, make([]uint32, 63)...), R7: make([]uint32, threads)}
}

func started(t *testing.T, text string, threads int) *Run {
	t.Helper()
	r, err := Start(specOf(t, text, threads), threads)
	if err != nil || r == nil {
		t.Fatalf("Start of %d threads: %v", threads, err)
	}
	return r
}

func wantFine(t *testing.T, what any, err error) {
	t.Helper()
	if err != nil {
		t.Errorf("%v: %v", what, err)
	}
}

// wantTold asks for a fault of that sort, if there is a sort, and for none, if there isn't.
func wantTold(t *testing.T, what string, err error, sort string) {
	t.Helper()
	switch {
	case sort == "":
		wantFine(t, what, err)
	case err == nil:
		t.Errorf("%s: no fault, want %q", what, sort)
	case !strings.Contains(err.Error(), sort):
		t.Errorf("%s: %v, want %q", what, err, sort)
	}
}

func turns(t *testing.T, text string, threads, calls, most int) error {
	t.Helper()
	return started(t, text, threads).Turns(order(threads), calls, most)
}

// order is the threads, rising.
func order(threads int) []int {
	var l []int
	for k := range threads {
		l = append(l, k)
	}
	return l
}

func TestStartRefusesWhatMayNotBe(t *testing.T) {
	for _, threads := range []int{-1, 0, 2, 65} {
		if r, err := Start(specOf(t, right, 1), threads); r != nil || err == nil {
			t.Errorf("Start of a spec of one thread, for %d: %v, %v", threads, r, err)
		}
	}
	if _, err := AllWays(specOf(t, right, 1), 2, 1); err == nil {
		t.Error("AllWays of a spec of one thread, for two: no fault")
	}
}

func TestDoDoesTheOneThingThatAThreadMay(t *testing.T) {
	r := started(t, right, 2)
	for n, c := range []struct{ thread, state, entries int }{
		{1, fifo.Calling, 1}, {1, fifo.Queued, 2}, {0, fifo.Calling, 3}, {0, fifo.Queued, 4}, {0, fifo.Queued, 4},
		{1, fifo.Holding, 6}, {1, fifo.Leaving, 7}, {0, fifo.Queued, 7}, {1, fifo.Idle, 9}, {1, fifo.Calling, 10}, {0, fifo.Holding, 12},
	} {
		wantFine(t, n, r.Do(c.thread, false))
		if state := r.State(c.thread); state != c.state || len(r.Entries) != c.entries {
			t.Errorf("doing %d: state %d, %d entries, want %+v", n, state, len(r.Entries), c)
		}
	}
	want := "call 1 1\nenq 1 2\ncall 0 3\nenq 0 4\ngrant 1 6\ngot 1 6\nunlock 1 7\nrelease 1 9\nover 1 9\ncall 1 10\ngrant 0 11\ngot 0 11\n"
	if text, e := trace.Text(r.Entries); text != want || e != api.OK {
		t.Errorf("entered:\n%s(error %d), want:\n%s", text, e, want)
	}
	if w := r.Work.Words()[:2]; !slices.Equal(w, []uint32{2, 1}) {
		t.Errorf("the cells are %v", w)
	}
}

func TestWhoIsLateLeaves(t *testing.T) {
	r := started(t, leaving, 2)
	for n, c := range []struct {
		thread int
		late   bool
	}{{0, true}, {0, true}, {0, true}, {1, false}, {1, false}, {1, false}, {1, true}, {1, true}, {1, true}} {
		wantFine(t, n, r.Do(c.thread, c.late))
	}
	want := "call 0 1\nenq 0 2\ngrant 0 3\ngot 0 3\ncall 1 4\nenq 1 5\nabort 1 8\nlost 1 8\ncall 1 9\n"
	if text, _ := trace.Text(r.Entries); text != want {
		t.Errorf("entered:\n%swant:\n%s", text, want)
	}
}

func TestARightLockIsFine(t *testing.T) {
	for threads := 1; threads <= 4; threads++ {
		_, err := AllWays(specOf(t, right, threads), threads, 14)
		wantFine(t, threads, err)
		r := started(t, right, threads)
		wantFine(t, threads, r.Mixed(uint64(threads), 5000))
		for thread := range threads {
			if n := trace.Count(trace.Of(r.Entries, thread), trace.Over); n < 40 {
				t.Errorf("%d threads: the calls of %d are over %d times alone", threads, thread, n)
			}
		}
		wantFine(t, threads, turns(t, right, threads, 5, 3*threads))
	}
	wantFine(t, "leaving", started(t, leaving, 3).Mixed(5, 200))
	wantFine(t, "leaving", turns(t, leaving, 3, 5, 9))
	_, err := AllWays(specOf(t, leaving, 2), 2, 14)
	wantFine(t, "leaving", err)
}

// Each is the lock told above with one line changed, or more, and what each of the three runs tells of it.
func TestFaultsAreTold(t *testing.T) {
	const trap, late, lost = "a trap", "too long", "without the lock"
	for _, c := range []struct {
		what, old, new     string
		ways, mixed, turns string
	}{
		{"nobody waits", "await r2 1 r0 eq r1\n", "", noFit, noFit, noFit},
		{"who waits looks for another number", "eq r1", "ne r1", noFit, noFit, noFit},
		{"it comes to its place ahead of its number", "fadd r1 0 r0 1\nmark 1\n", "mark 1\nfadd r1 0 r0 1\n", noFit, noFit, ""},
		{"two draw one number", "fadd r1 0 r0 1\n", "load r1 0 r0\naddk r2 r1 1\nstore 0 r0 r2\n", noFit, noFit, noFit},
		{"it is granted as it draws", "mark 1\n", "mark 1\nmark 2\n", noFit, noFit, noFit},
		{"it comes to no place", "mark 1\n", "", noFit, noFit, noFit},
		{"it isn't granted", "mark 2\n", "", noFit, noFit, noFit},
		{"it leaves", "mark 2\n", "mark 3\n", noFit, noFit, noFit},
		{"it releases as it has the lock", "mark 2\n", "mark 2\nmark 4\n", noFit, noFit, noFit},
		{"it isn't released", "mark 4\n", "", noFit, noFit, noFit},
		{"it is released twice", "mark 4\n", "mark 4\nmark 4\n", noFit, noFit, noFit},
		{"to lock ends as to unlock should", "done 1", "done 2", noFit, noFit, noFit},
		{"to lock ends as if late", "done 1", "done 0", noFit, noFit, noFit},
		{"to lock ends as if no node were free", "done 1", "done 3", noFit, noFit, noFit},
		{"to unlock ends as to lock should", "done 2", "done 1", noFit, noFit, noFit},
		{"the wrong one is called", "fadd r2 1 r0 1", "fadd r2 1 r0 2", noFit, noFit, late},
		{"nobody is called", "fadd r2 1 r0 1", "load r2 1 r0", "", "", late},
		{"no such area", "fadd r2 1", "fadd r2 3", trap, trap, trap},
		{"no such cell", "await r2 1 r0", "await r2 1 r1", trap, trap, trap},
		{"no node is free to be freed", "mark 4\n", "mark 4\nconst r3 9\nfree r3\n", trap, trap, trap},
		{"nothing is behind it", "done 2\n", "", trap, trap, trap},
		{"it goes round as it begins", "fadd r1 0 r0 1\n", "again:\njump again\nfadd r1 0 r0 1\n", trap, trap, trap},
		{"it is full at once", "fadd r1 0 r0 1\n", "done 3\nfadd r1 0 r0 1\n", "", "", lost},
		{"whoever looks in vain leaves", "await r2 1 r0 eq r1\n", "load r2 1 r0\nbeq r2 r1 has\nmark 3\ndone 0\nhas:\n", "", "", lost},
		{"who is late leaves, and isn't said to", "eq r1\nmark 2\ndone 1\n", "eq r1 else leave\nmark 2\ndone 1\nleave:\ndone 0\n", noFit, noFit, ""},
		{"who is late has the lock", "eq r1", "eq r1 else has\nhas:", noFit, noFit, ""},
		{"it takes some steps more", "unlock:\n", "unlock:\n" + strings.Repeat("load r2 1 r0\n", 9), "", "", late},
	} {
		text := strings.Replace(right, c.old, c.new, 1)
		if text == right {
			t.Fatalf("%s: nothing is changed", c.what)
		}
		_, err := AllWays(specOf(t, text, 2), 2, 14)
		wantTold(t, c.what+", all ways", err, c.ways)
		wantTold(t, c.what+", mixed", started(t, text, 2).Mixed(1, 2000), c.mixed)
		wantTold(t, c.what+", turns", turns(t, text, 2, 3, 6), c.turns)
	}
}

// Only where three threads' steps follow each other in one of few ways is it seen that the number is lost.
func TestAllWaysMeetsTheFewThatAreWrong(t *testing.T) {
	text := strings.Replace(right, "fadd r2 1 r0 1\n", "load r2 0 r0\naddk r2 r2 4294967293\nbeq r2 r1 trap\nfadd r2 1 r0 1\n", 1) + "trap:\nconst r1 77\nload r1 2 r1\ndone 2\n"
	for _, c := range []struct {
		threads, doings int
		sort            string
	}{{2, 12, ""}, {3, 9, ""}, {3, 10, "a trap"}} {
		_, err := AllWays(specOf(t, text, c.threads), c.threads, c.doings)
		wantTold(t, "all ways", err, c.sort)
	}
}

func TestAllWaysOfALockWithNodesIsRefused(t *testing.T) {
	s := specOf(t, right, 1)
	s.Each = 1
	if n, err := AllWays(s, 1, 1); n != 0 || err == nil {
		t.Errorf("it is taken: %d, %v", n, err)
	}
}

// standings goes all ways one by one, and collects how all stood.
func standings(t *testing.T, s api.Spec, threads, doings int, way []doing, met map[string]bool) {
	t.Helper()
	if len(way) > 0 {
		standing, err := behind(s, threads, way)
		wantFine(t, way, err)
		met[standing] = true
	}
	if doings == 0 {
		return
	}
	for thread := range threads {
		for _, late := range []bool{false, true} {
			standings(t, s, threads, doings-1, append(slices.Clone(way), doing{thread, late}), met)
		}
	}
}

func TestAllWaysGoesAllWays(t *testing.T) {
	for _, c := range []struct {
		text             string
		threads, longest int
	}{{right, 1, 8}, {right, 2, 7}, {right, 3, 5}, {leaving, 2, 7}} {
		for doings := range c.longest + 1 {
			s, met := specOf(t, c.text, c.threads), map[string]bool{}
			standings(t, s, c.threads, doings, nil, met)
			if n, err := AllWays(s, c.threads, doings); n != len(met) || err != nil {
				t.Errorf("%d threads, %d doings: %d, %v, want %d", c.threads, doings, n, err, len(met))
			}
		}
	}
	if n, err := AllWays(specOf(t, right, 1), 1, 90); n != 90 || err != nil {
		t.Errorf("one thread, whose numbers rise: %d, %v", n, err)
	}
	if n, err := AllWays(specOf(t, alone, 1), 1, 90); n != 2 || err != nil {
		t.Errorf("one thread, that has the lock or not: %d, %v", n, err)
	}
	if n, err := AllWays(specOf(t, alone, 1), 1, math.MaxInt); n != 2 || err != nil {
		t.Errorf("one thread, that has the lock or not, however long: %d, %v", n, err)
	}
	slow := strings.Replace(alone, "done 1\n", "store 0 r0 r0\nstore 0 r0 r0\nstore 0 r0 r0\ndone 1\n", 1)
	if n, err := AllWays(specOf(t, slow, 1), 1, 90); n != 5 || err != nil {
		t.Errorf("one thread, at three places more: %d, %v", n, err)
	}
}

func TestTurnsAreAsManyAsAreAskedFor(t *testing.T) {
	for _, order := range [][]int{{0}, {2}, {0, 1, 2}, {2, 0, 1}, {1, 1, 0}, {}} {
		for calls := range 4 {
			r := started(t, right, 3)
			wantFine(t, order, r.Turns(order, calls, 12))
			for thread := range 3 {
				want := 0
				if slices.Contains(order, thread) {
					want = calls
				}
				its := trace.Of(r.Entries, thread)
				if trace.Count(its, trace.Call) != want || trace.Count(its, trace.Got) != want || trace.Count(its, trace.Over) != want || r.State(thread) != fifo.Idle {
					t.Errorf("order %v, %d calls: of %d was entered %v", order, calls, thread, its)
				}
			}
		}
	}
}

// To lock alone takes three doings: the call, the number, the look; to unlock takes two.
func TestTurnsCountsDoings(t *testing.T) {
	for most := range 6 {
		sort := "too long"
		if most >= 3 {
			sort = ""
		}
		wantTold(t, "one thread", turns(t, right, 1, 3, most), sort)
	}
	slow := strings.Replace(right, "mark 4\n", "load r2 0 r0\nload r2 0 r0\nmark 4\n", 1)
	wantTold(t, "slow to unlock", turns(t, slow, 1, 3, 3), "too long")
	wantTold(t, "slow to unlock", turns(t, slow, 1, 3, 4), "")
	r := started(t, right, 2)
	wantFine(t, "0 comes first", r.Do(0, false))
	wantFine(t, "0 comes first", r.Do(0, false))
	wantTold(t, "1 alone behind 0", r.Turns([]int{1}, 1, 50), "too long")
	if r.now != 52 {
		t.Errorf("there were %d doings", r.now)
	}
}

func TestMixedIsTheSameForTheSameSeed(t *testing.T) {
	a, b, other := started(t, right, 5), started(t, right, 5), started(t, right, 5)
	wantFine(t, "a", a.Mixed(1, 1000))
	wantFine(t, "b", b.Mixed(1, 1000))
	wantFine(t, "other", other.Mixed(2, 1000))
	if !slices.Equal(a.Entries, b.Entries) || slices.Equal(a.Entries, other.Entries) {
		t.Error("it isn't so")
	}
	if a.now != 1000 {
		t.Errorf("there were %d doings", a.now)
	}
}

// A fault that was told is to be found again, so the ways are the same ones for ever. (Some wait, and some leave: the looks are late and not.)
func TestMixedIsWhatItWas(t *testing.T) {
	r := started(t, leaving, 3)
	wantFine(t, "mixed", r.Mixed(1, 40))
	want := "call 0 1,enq 0 2,grant 0 3,got 0 3,unlock 0 4,call 1 5,enq 1 6,release 0 8,over 0 8,call 2 9,enq 2 10,abort 2 12,lost 2 12,call 2 13,enq 2 14,grant 1 15,got 1 15,abort 2 17,lost 2 17,unlock 1 18," +
		"call 0 19,enq 0 21,call 2 23,enq 2 25,abort 0 27,lost 0 27,abort 2 30,lost 2 30,call 0 31,enq 0 32,abort 0 34,lost 0 34,call 0 35,enq 0 36,abort 0 39,lost 0 39,call 0 40,"
	text, _ := trace.Text(r.Entries)
	if got := strings.ReplaceAll(text, "\n", ","); got != want {
		t.Errorf("entered: %s, want %s", got, want)
	}
}

// Of the threads of a burst some are left out for long, so one that holds the lock may be.
func TestMixedLeavesSomeOutForAWhile(t *testing.T) {
	r := started(t, right, 8)
	wantFine(t, "mixed", r.Mixed(3, 20000))
	seen := make([]int, 8)
	longest := 0
	for _, x := range r.Entries {
		longest = max(longest, x.Now-seen[x.Thread])
		seen[x.Thread] = x.Now
	}
	if longest < 200 {
		t.Errorf("at most %d doings lie between two entries of a thread", longest)
	}
}

func TestAFaultTellsTheLastEntries(t *testing.T) {
	r := started(t, strings.Replace(right, "mark 2", "mark 3", 1), 1)
	err := r.Turns([]int{0}, 1, 9)
	if want := "the thread 0, behind 3 doings: the last entry doesn't fit; entries:\ncall 0 1\nenq 0 2\nabort 0 3\ngot 0 3\n"; err == nil || err.Error() != want {
		t.Errorf("told: %v, want %s", err, want)
	}
	long := started(t, strings.Replace(right, "fadd r1 0 r0 1", "fadd r1 0 r0 1\nload r3 2 r1", 1), 1)
	err = long.Turns([]int{0}, 65, 9)
	if err == nil || strings.Count(err.Error(), "\n") != 41 || !strings.HasSuffix(err.Error(), "call 0 385\n") || !strings.Contains(err.Error(), "a trap") {
		t.Errorf("told: %v", err)
	}
}
