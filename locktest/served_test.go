package locktest

import (
	"slices"
	"strings"
	"testing"

	"ropeline/fifo"
	"ropeline/trace"
)

func TestDoTimes(t *testing.T) {
	r := started(t, right, 2)
	wantFine(t, "none", r.DoTimes(1, 0))
	if r.now != 0 {
		t.Errorf("there were %d doings", r.now)
	}
	wantFine(t, "all", r.DoTimes(1, 5))
	if r.now != 5 || r.State(1) != fifo.Idle || trace.Count(r.Entries, trace.Over) != 1 {
		t.Errorf("behind %d doings: %v", r.now, r.Entries)
	}
	wrong := started(t, strings.Replace(right, "mark 2\n", "mark 2\nmark 2\n", 1), 1)
	wantTold(t, "granted twice", wrong.DoTimes(0, 5), noFit)
	if wrong.now != 3 {
		t.Errorf("it goes on behind a fault: %d doings", wrong.now)
	}
	late := started(t, leaving, 2)
	wantFine(t, "it comes first", late.DoTimes(0, 2))
	wantFine(t, "it waits, and isn't late", late.DoTimes(1, 9))
	if late.State(1) != fifo.Queued {
		t.Errorf("it is late: %v", late.Entries)
	}
}

// queued is a lock at work, with all threads in the queue, in that order.
func queued(t *testing.T, text string, come []int) *Run {
	t.Helper()
	r := started(t, text, len(come))
	for _, thread := range come {
		wantFine(t, "to its place", r.DoTimes(thread, 2))
	}
	return r
}

func TestServe(t *testing.T) {
	come := []int{2, 0, 3, 1}
	r := queued(t, right, come)
	for turn, thread := range come {
		before := r.now
		wantFine(t, turn, r.Serve(come[turn:], 3))
		if others := len(come) - turn - 1; r.now != before+others+3 || r.State(thread) != fifo.Idle {
			t.Errorf("turn %d: %d doings, %v", turn, r.now-before, r.Entries)
		}
	}
	if got := ThreadsOf(r.Entries, trace.Over); !slices.Equal(got, come) {
		t.Errorf("the lock was had by %v, want %v", got, come)
	}
}

func TestServeTellsWhatComesOtherwise(t *testing.T) {
	come := []int{1, 0}
	for _, c := range []struct {
		what, old, new string
		waiting        []int
		doings         int
		sort           string
	}{
		{"the first one is the second one", "", "", []int{0, 1}, 3, "doesn't wait"},
		{"the second one alone", "", "", []int{0}, 3, "didn't have the lock"},
		{"too few doings", "", "", come, 2, "has it yet"},
		{"too many doings", "", "", come, 4, "has it yet"},
		{"it calls again", "", "", come, 6, "has it yet"},
		{"all may go", "await r2 1 r0 eq r1\n", "load r2 1 r0\n", come, 3, noFit},
		{"a trap of one who waits", "await r2 1 r0 eq r1\n", "load r2 3 r0\n", come, 3, "a trap"},
		{"a trap of the first one", "done 2\n", "", come, 3, "a trap"},
		{"who looks in vain leaves", "await r2 1 r0 eq r1\n", "load r2 1 r0\nbeq r2 r1 has\nmark 3\ndone 0\nhas:\n", come, 3, "doesn't wait"},
		{"all leave", "await r2 1 r0 eq r1\nmark 2\ndone 1\n", "load r2 1 r0\nmark 3\ndone 0\n", come[:1], 1, "didn't have the lock"},
	} {
		r := queued(t, strings.Replace(right, c.old, c.new, 1), come)
		wantTold(t, c.what, r.Serve(c.waiting, c.doings), c.sort)
	}
}

func TestServed(t *testing.T) {
	for _, times := range []int{0, 1, 3} {
		r := started(t, right, 3)
		wantFine(t, "turns", r.Turns(order(3), times, 12))
		for asked := range 5 {
			sort := "times"
			if asked == times {
				sort = ""
			}
			wantTold(t, "all are served", r.Served(asked), sort)
		}
		wantFine(t, "the last one once more", r.DoTimes(2, 3+2))
		wantTold(t, "the last one was served once more", r.Served(times), "the thread 2")
		wantTold(t, "the others weren't", r.Served(times+1), "the thread 0")
	}
}

// Of a call that isn't over the lock was had, or is had yet.
func TestServedAsksForWhoIsIdle(t *testing.T) {
	for doings := range 6 {
		r := started(t, right, 1)
		wantFine(t, "some of a call", r.DoTimes(0, doings))
		none, once := "times", "times"
		switch doings {
		case 0:
			none = ""
		case 5:
			once = ""
		}
		wantTold(t, "none", r.Served(0), none)
		wantTold(t, "once", r.Served(1), once)
	}
}
