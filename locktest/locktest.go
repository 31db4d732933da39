// Package locktest holds a lock at work against the abstract lock. The tests of the locks share it; the program itself calls nothing of it.
package locktest

import (
	"slices"
	"strconv"

	"ropeline/api"
	"ropeline/exec"
	"ropeline/fifo"
	"ropeline/trace"
)

// markKinds are the entries of marks, endKinds those of what a call is over with.
var (
	markKinds = [...]int{api.Enq: trace.Enq, api.Grant: trace.Grant, api.Abort: trace.Abort, api.Release: trace.Release}
	endKinds  = [...]int{api.TimedOut: trace.Lost, api.Acquired: trace.Got, api.Released: trace.Over, api.Full: trace.Full}
)

// Run is a lock at work, and all that was entered of it, which the abstract lock took (but the last entry, if that was a fault).
type Run struct {
	Work    *exec.Exec
	Entries []trace.Entry
	law     *fifo.Lock
	// now is how many doings there were.
	now int
}

// Start is a lock at work, of which nothing was entered.
func Start(s api.Spec, threads int) (*Run, error) {
	work, e := exec.New(s, threads)
	if e != api.OK {
		return nil, fault("the spec may not be")
	}
	// There is an abstract lock of as many threads as a lock at work may have.
	law, _ := fifo.New(threads)
	return &Run{Work: work, law: law}, nil
}

// State is a thread's, as layer 13 counts it.
func (r *Run) State(t int) int { return r.law.State(t) }

// Do lets a thread do the one thing that it may: call to lock, if it is idle; call to unlock, if it is holding; else a step.
func (r *Run) Do(t int, late bool) error {
	r.now++
	switch r.State(t) {
	case fifo.Idle:
		return r.call(t, trace.Call)
	case fifo.Holding:
		return r.call(t, trace.Unlock)
	}
	return r.came(t, r.Work.Step(t, late))
}

func (r *Run) call(t, kind int) error {
	if err := r.enter(t, kind); err != nil {
		return err
	}
	return r.came(t, r.Work.Begin(t, kind == trace.Unlock))
}

// came enters what a call's beginning, or a step, came to.
func (r *Run) came(t int, o exec.Out) error {
	if o.E != api.OK {
		return r.fail(t, "a trap")
	}
	for _, mark := range o.Marks {
		if err := r.enter(t, markKinds[mark]); err != nil {
			return err
		}
	}
	if o.Done < 0 {
		return nil
	}
	return r.enter(t, endKinds[o.Done])
}

func (r *Run) enter(t, kind int) error {
	x := trace.Entry{Kind: kind, Thread: t, Now: r.now}
	r.Entries = append(r.Entries, x)
	if !r.law.Take(x) {
		return r.fail(t, "the last entry doesn't fit")
	}
	return nil
}

// fault is what a lock did that it may not.
type fault string

func (f fault) Error() string { return string(f) }

// fail is the fault of what a thread did, with the last entries.
func (r *Run) fail(t int, what string) error {
	last := r.Entries[max(0, len(r.Entries)-40):]
	text, _ := trace.Text(last)
	return fault("the thread " + strconv.Itoa(t) + ", behind " + strconv.Itoa(r.now) + " doings: " + what + "; entries:\n" + text)
}

// Turns lets each thread of order call so many times, and all of order do something by turns, till these calls are over. It is a fault if a call asks for more doings of its thread than most, or ends without the lock.
func (r *Run) Turns(order []int, calls, most int) error {
	called, took := make([]int, r.Work.Threads()), make([]int, r.Work.Threads())
	for busy := true; busy; {
		busy = false
		for _, t := range order {
			if r.State(t) == fifo.Idle {
				if called[t] == calls {
					continue
				}
				called[t]++
			}
			if !r.isUnderWay(t) {
				took[t] = 0
			}
			took[t]++
			busy = true
			if err := r.doInTime(t, most-took[t]); err != nil {
				return err
			}
		}
	}
	return nil
}

// isUnderWay tells whether a thread has called, and the call isn't over.
func (r *Run) isUnderWay(t int) bool {
	state := r.State(t)
	return state != fifo.Idle && state != fifo.Holding
}

// doInTime lets a thread do something in a call that may take so many doings more, and must not end without the lock.
func (r *Run) doInTime(t, more int) error {
	if err := r.Do(t, false); err != nil {
		return err
	}
	switch r.Entries[len(r.Entries)-1].Kind {
	case trace.Lost, trace.Full:
		return r.fail(t, "a call ends without the lock")
	}
	if more <= 0 && r.isUnderWay(t) {
		return r.fail(t, "a call takes too long")
	}
	return nil
}

// Mixed lets the threads do something, so many times, in an order that looks mixed, and is the same one for the same seed: by bursts, in each of which some threads alone, beside each other, do something.
func (r *Run) Mixed(seed uint64, doings int) error {
	d, threads := dice(seed), r.Work.Threads()
	first, some := 0, 1
	for range doings {
		if d.below(4*threads) == 0 {
			first, some = d.below(threads), 1+d.below(threads)
		}
		t := (first + d.below(some)) % threads
		if err := r.Do(t, d.below(2) == 0); err != nil {
			return err
		}
	}
	return nil
}

// dice gives numbers that look mixed, the same ones each time.
type dice uint64

func (d *dice) below(n int) int {
	*d = *d*6364136223846793005 + 1442695040888963407
	return int(uint64(*d)>>33) % n
}

// doing is who does something, and whether it is late.
type doing struct {
	thread int
	late   bool
}

// AllWays lets the threads do something, so many times, in each way in which their doings can follow each other, and counts how differently all stood behind some of it. Ways behind which all stands alike go on as one: so no lock with nodes is taken, of which it can't be seen which one is free next, and once all stands as it stood before in each of them, these were all ways, however long.
func AllWays(s api.Spec, threads, doings int) (int, error) {
	if s.Each != 0 {
		return 0, fault("a lock with nodes")
	}
	met := map[string]bool{}
	ways := [][]doing{nil}
	for left := doings; left > 0 && len(ways) > 0; left-- {
		var longer [][]doing
		for _, way := range longerByOne(ways, threads) {
			standing, err := behind(s, threads, way)
			if err != nil {
				return len(met), err
			}
			if !met[standing] {
				met[standing] = true
				longer = append(longer, way)
			}
		}
		ways = longer
	}
	return len(met), nil
}

// longerByOne is each way with each doing behind it.
func longerByOne(ways [][]doing, threads int) [][]doing {
	var longer [][]doing
	for _, way := range ways {
		for t := range threads {
			for _, late := range []bool{false, true} {
				longer = append(longer, append(slices.Clone(way), doing{t, late}))
			}
		}
	}
	return longer
}

// behind is how all stands behind a way.
func behind(s api.Spec, threads int, way []doing) (string, error) {
	r, err := Start(s, threads)
	if err != nil {
		return "", err
	}
	for _, x := range way {
		if err := r.Do(x.thread, x.late); err != nil {
			return "", err
		}
	}
	return r.standing(), nil
}

// standing tells all of a lock without nodes, and of the abstract lock, that what happens next hangs on.
func (r *Run) standing() string {
	var b []byte
	add := func(n int) { b = append(strconv.AppendInt(b, int64(n), 10), ' ') }
	for _, word := range r.Work.Words() {
		add(int(word))
	}
	for t := range r.Work.Threads() {
		c := r.Work.Core(t)
		add(c.Pc)
		for _, word := range c.R {
			add(int(word))
		}
		add(r.State(t))
	}
	for _, t := range r.law.Queue() {
		add(t)
	}
	return string(b)
}
