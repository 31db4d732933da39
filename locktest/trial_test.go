package locktest

import (
	"errors"
	"strings"
	"testing"

	"ropeline/api"
	"ropeline/trace"
)

// trials are all of them, by their names.
func trials() map[string]func(k Trial) error {
	return map[string]func(k Trial) error{
		"in order":          Trial.InOrder,
		"last doing first":  Trial.LastDoingFirst,
		"again at once":     Trial.AgainAtOnce,
		"by turns":          Trial.EndsByTurns,
		"alone":             Trial.EndsAlone,
		"behind mixed ways": Trial.EndsBehindMixedWays,
	}
}

// trialOf is that of a lock that draws a number as its second doing, and looks, calls to unlock, and calls the next one behind that.
func trialOf(t *testing.T, text string, threads int) Trial {
	t.Helper()
	return Trial{Spec: specOf(t, text, threads), Threads: threads, Join: 2, Have: 3, Alone: 3, Check: func(*Run) error { return nil }}
}

func TestARightLockStandsAllTrials(t *testing.T) {
	for _, threads := range []int{1, 2, 3, 5, 64} {
		for name, try := range trials() {
			wantFine(t, name, try(trialOf(t, right, threads)))
		}
	}
	for name, try := range trials() {
		if err := try(Trial{Spec: specOf(t, right, 1), Threads: 2, Join: 2, Have: 3, Alone: 3}); err == nil {
			t.Errorf("%s: a spec of one thread, for two: no fault", name)
		}
	}
}

// Each Check is asked, and its fault told; the trials differ in how often they ask: behind all have come, and each had the lock; or behind all calls.
func TestTrialsTellWhatTheCheckTells(t *testing.T) {
	for name, times := range map[string]int{"in order": 9 * 4, "last doing first": 5 * 4, "again at once": 1 + 10 + 3, "by turns": 6 * 7, "alone": 4 * 2, "behind mixed ways": 30} {
		for bad := range times + 1 {
			k, asked := trialOf(t, right, 3), 0
			k.Check = func(r *Run) error {
				asked++
				if asked == bad+1 {
					return errors.New("it stands otherwise")
				}
				return nil
			}
			err := trials()[name](k)
			if bad == times {
				wantFine(t, name, err)
				continue
			}
			wantTold(t, name, err, "it stands otherwise")
			if asked != bad+1 {
				t.Errorf("%s: it was asked %d times, the fault was at %d", name, asked, bad+1)
			}
		}
	}
}

// checked is all that was entered when the Check was asked, each time.
func checked(t *testing.T, name string, threads int) [][]trace.Entry {
	t.Helper()
	var all [][]trace.Entry
	k := trialOf(t, right, threads)
	k.Check = func(r *Run) error {
		all = append(all, r.Entries)
		return nil
	}
	wantFine(t, name, trials()[name](k))
	return all
}

func TestTrialsLetAllHaveTheLock(t *testing.T) {
	for name, overs := range map[string]int{"in order": 9, "last doing first": 1, "by turns": 6, "alone": 5} {
		all := checked(t, name, 4)
		last := all[len(all)-1]
		for thread := range 4 {
			its := trace.Of(last, thread)
			if over := trace.Count(its, trace.Over); over != overs || trace.Count(its, trace.Call) != over {
				t.Errorf("%s: of %d calls of %d %d are over, want %d", name, trace.Count(its, trace.Call), thread, over, overs)
			}
		}
	}
}

func TestInOrderLetsThemComeInManyOrders(t *testing.T) {
	all := checked(t, "in order", 4)
	came := ThreadsOf(all[len(all)-1], trace.Enq)
	met := map[string]bool{}
	for round := range len(came) / 4 {
		its := came[4*round : 4*round+4]
		wantEachOnce(t, its, 4)
		met[numbers(its)] = true
	}
	if len(came) != 9*4 || len(met) < 5 {
		t.Errorf("they came %d times, in %d orders", len(came), len(met))
	}
}

// All have called ahead of the first number.
func TestLastDoingFirstLetsThemComeInAnotherOrder(t *testing.T) {
	met := map[string]bool{}
	for _, l := range checked(t, "last doing first", 4) {
		called, came := ThreadsOf(l[:4], trace.Call), ThreadsOf(l, trace.Enq)
		wantEachOnce(t, called, 4)
		wantEachOnce(t, came, 4)
		if numbers(called) != numbers(order(4)) {
			t.Errorf("they called as %v", called)
		}
		met[numbers(came)] = true
	}
	if len(met) < 4 {
		t.Errorf("they came in %d orders", len(met))
	}
}

// Each who has the lock comes again at once: all go round three times, and one of them comes once more.
func TestAgainAtOnceGoesRound(t *testing.T) {
	all := checked(t, "again at once", 4)
	last := all[len(all)-1]
	came, granted := ThreadsOf(last, trace.Enq), ThreadsOf(last, trace.Grant)
	if len(came) != 4+3*4+1 || numbers(came) != numbers(granted) || numbers(came[:13]) != numbers(came[4:]) {
		t.Errorf("they came as %v, and were granted as %v", came, granted)
	}
	if over := ThreadsOf(last[:len(last)-4*5], trace.Over); len(over) != 13 {
		t.Errorf("till the last one came again, the lock was had by %v", over)
	}
}

// It takes two doings to a place, three more to have had the lock, and a call alone takes three.
func TestTrialsAskForDoings(t *testing.T) {
	const notThere, notHad, late = "doesn't wait", "or has it yet", "too long"
	for _, c := range []struct {
		what string
		k    func(k *Trial)
		told map[string]string
	}{
		{"a doing less to a place", func(k *Trial) { k.Join-- }, map[string]string{"in order": notThere, "last doing first": notThere, "again at once": notThere}},
		{"a doing more to a place", func(k *Trial) { k.Join++ }, map[string]string{"in order": notThere, "last doing first": notThere, "again at once": notThere}},
		{"a doing less to have it", func(k *Trial) { k.Have-- }, map[string]string{"in order": notHad, "last doing first": notHad, "again at once": notHad, "behind mixed ways": late}},
		{"a doing more to have it", func(k *Trial) { k.Have++ }, map[string]string{"in order": notHad, "last doing first": notHad, "again at once": notHad}},
		{"a doing less alone", func(k *Trial) { k.Alone-- }, map[string]string{"alone": late}},
		{"one doing to have it", func(k *Trial) { k.Have = 1 }, map[string]string{"in order": notHad, "last doing first": notHad, "again at once": notHad, "by turns": late, "alone": late, "behind mixed ways": late}},
	} {
		for name, try := range trials() {
			k := trialOf(t, right, 4)
			c.k(&k)
			wantTold(t, c.what+", "+name, try(k), c.told[name])
		}
	}
	for _, name := range []string{"by turns", "alone", "behind mixed ways"} {
		k := trialOf(t, right, 1)
		k.Alone--
		wantTold(t, name, trials()[name](k), late)
	}
}

// Behind each mixed way, none of which is another one, all call twice more.
func TestBehindMixedWaysGoesOnFromThem(t *testing.T) {
	for seed, l := range checked(t, "behind mixed ways", 4) {
		r := started(t, right, 4)
		wantFine(t, seed, r.Mixed(uint64(seed), 4*20+seed))
		behind, ok := strings.CutPrefix(text(t, l), text(t, r.Entries))
		if !ok || strings.Count(behind, "call ") != 4*2 {
			t.Errorf("the seed %d: behind\n%sstands\n%s", seed, text(t, r.Entries), behind)
		}
	}
}

func text(t *testing.T, l []trace.Entry) string {
	t.Helper()
	s, e := trace.Text(l)
	if e != api.OK {
		t.Fatalf("the text of %d entries: error %d", len(l), e)
	}
	return s
}

// Each is the right lock with some lines changed, and what the trials tell of it.
func TestTrialsTellFaults(t *testing.T) {
	const notThere, notHad, late, lost = "doesn't wait", "didn't have the lock", "too long", "without the lock"
	all := []string{"in order", "last doing first", "again at once", "by turns", "alone", "behind mixed ways"}
	for _, c := range []struct {
		what, old, new string
		// told is by each of all.
		told [6]string
	}{
		{"nobody waits", "await r2 1 r0 eq r1\n", "load r2 1 r0\n", [6]string{noFit, noFit, noFit, noFit, noFit, noFit}},
		{"nobody is called", "fadd r2 1 r0 1", "load r2 1 r0", [6]string{notHad, notHad, notHad, late, late, late}},
		{"no such area", "fadd r1 0", "fadd r1 3", [6]string{"a trap", "a trap", "a trap", "a trap", "a trap", "a trap"}},
		{"no such cell", "await r2 1 r0", "await r2 1 r1", [6]string{"a trap", "a trap", "a trap", "a trap", "a trap", "a trap"}},
		{"it has the lock at its place", "await r2 1 r0 eq r1\n", "", [6]string{notThere, notThere, notThere, noFit, noFit, noFit}},
		{"whoever looks in vain leaves", "await r2 1 r0 eq r1\n", "load r2 1 r0\nbeq r2 r1 has\nmark 3\ndone 0\nhas:\n", [6]string{notThere, notThere, notThere, lost, lost, lost}},
		{"who draws first may be behind", "mark 1\nawait", "load r2 0 r0\nmark 1\nawait", [6]string{notThere, notThere, notThere, noFit, late, noFit}},
		{"it takes a step more to unlock", "fadd r2 1 r0 1\n", "fadd r2 1 r0 0\nfadd r2 1 r0 1\n", [6]string{notHad, notHad, notHad, "", "", late}},
	} {
		text := strings.Replace(right, c.old, c.new, 1)
		if text == right {
			t.Fatalf("%s: nothing is changed", c.what)
		}
		for n, name := range all {
			wantTold(t, c.what+", "+name, trials()[name](trialOf(t, text, 4)), c.told[n])
		}
	}
}
