package locktest

import (
	"slices"
	"strconv"

	"ropeline/fifo"
	"ropeline/trace"
)

// DoTimes lets a thread do something, so many times, and it isn't late.
func (r *Run) DoTimes(t, times int) error {
	for range times {
		if err := r.Do(t, false); err != nil {
			return err
		}
	}
	return nil
}

// Serve lets the first one of those who wait have the lock, for which it may do something so many times, while the others look in vain. It is a fault if it isn't granted the lock, or isn't idle then, or if one of the others doesn't wait.
func (r *Run) Serve(waiting []int, doings int) error {
	for _, t := range waiting[1:] {
		if err := r.Do(t, false); err != nil {
			return err
		}
		if r.State(t) != fifo.Queued {
			return r.fail(t, "it doesn't wait")
		}
	}
	first, entered := waiting[0], len(r.Entries)
	if err := r.DoTimes(first, doings); err != nil {
		return err
	}
	if !slices.Equal(ThreadsOf(r.Entries[entered:], trace.Grant), waiting[:1]) || r.State(first) != fifo.Idle {
		return r.fail(first, "it didn't have the lock, or has it yet")
	}
	return nil
}

// Served is a fault if not each thread had the lock so many times, or if one isn't idle.
func (r *Run) Served(times int) error {
	for t := range r.Work.Threads() {
		got := trace.Count(trace.Of(r.Entries, t), trace.Got)
		if got != times || r.State(t) != fifo.Idle {
			return r.fail(t, "it had the lock "+strconv.Itoa(got)+" times, or isn't idle")
		}
	}
	return nil
}
