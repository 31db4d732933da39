package locktest

import (
	"ropeline/api"
	"ropeline/fifo"
)

// Trial is a lock that is tried, and what is asked of it.
type Trial struct {
	Spec    api.Spec
	Threads int
	// Join is how many doings bring a thread that is idle to its place in the queue, Have how many more make it idle again, if it is its turn.
	Join, Have int
	// Alone is how many doings a call to lock may take that nobody is ahead of.
	Alone int
	// Check is a fault if not all stands as it should behind what was entered.
	Check func(r *Run) error
}

// InOrder lets all come to their places, each time in another order, so that each waits for others. It is a fault if they don't have the lock in that order.
func (k Trial) InOrder() error {
	r, err := Start(k.Spec, k.Threads)
	for seed := uint64(0); seed < 9 && err == nil; seed++ {
		err = k.comeAndServe(r, Shuffled(k.Threads, seed), k.Join)
	}
	return err
}

// LastDoingFirst lets all do all but the last doing to their places in one order, and that one in another order. It is a fault if they don't have the lock in the latter.
func (k Trial) LastDoingFirst() error {
	for seed := range uint64(5) {
		r, err := Start(k.Spec, k.Threads)
		for doing := 0; doing < k.Threads*(k.Join-1) && err == nil; doing++ {
			err = r.Do(doing%k.Threads, false)
		}
		if err == nil {
			err = k.comeAndServe(r, Shuffled(k.Threads, seed), 1)
		}
		if err != nil {
			return err
		}
	}
	return nil
}

// AgainAtOnce lets the first one of those who wait have the lock and come to its place again, ahead of a look of those behind. It is a fault if it doesn't have it, or doesn't wait then, or if they don't have the lock in order.
func (k Trial) AgainAtOnce() error {
	r, err := Start(k.Spec, k.Threads)
	if err != nil {
		return err
	}
	l := Shuffled(k.Threads, uint64(k.Threads))
	err = k.come(r, l, k.Join)
	for turn := 0; turn <= 3*k.Threads && err == nil; turn++ {
		first := l[:1:1]
		l = append(l[1:], first...)
		if err = r.Serve(first, k.Have); err == nil {
			err = k.come(r, first, k.Join)
		}
	}
	if err != nil {
		return err
	}
	return k.serve(r, l)
}

// comeAndServe lets those of l come to their places by so many doings, and have the lock.
func (k Trial) comeAndServe(r *Run, l []int, doings int) error {
	if err := k.come(r, l, doings); err != nil {
		return err
	}
	return k.serve(r, l)
}

// come lets each of l do something so many times, one behind the other. It is a fault if one doesn't wait then.
func (k Trial) come(r *Run, l []int, doings int) error {
	for _, t := range l {
		if err := r.DoTimes(t, doings); err != nil {
			return err
		}
		if r.State(t) != fifo.Queued {
			return r.fail(t, "it doesn't wait")
		}
	}
	return k.Check(r)
}

// serve lets those who wait have the lock, one behind the other.
func (k Trial) serve(r *Run, waiting []int) error {
	for turn := range waiting {
		if err := r.Serve(waiting[turn:], k.Have); err != nil {
			return err
		}
		if err := k.Check(r); err != nil {
			return err
		}
	}
	return nil
}

// EndsByTurns lets all call, up to six times, and do something by turns, in some orders. It is a fault if a call takes too long.
func (k Trial) EndsByTurns() error {
	for _, order := range Orders(k.Threads) {
		for calls := range 7 {
			if _, err := k.behindTurns(order, calls); err != nil {
				return err
			}
		}
	}
	return nil
}

// EndsAlone lets each call twice while nobody else does, behind calls of all. It is a fault if one of these takes longer than it may alone.
func (k Trial) EndsAlone() error {
	for calls := range 4 {
		l := Shuffled(k.Threads, uint64(calls))
		r, err := k.behindTurns(l, calls)
		for turn := 0; turn < len(l) && err == nil; turn++ {
			err = r.Turns(l[turn:turn+1], 2, k.Alone)
		}
		if err == nil {
			err = k.Check(r)
		}
		if err != nil {
			return err
		}
	}
	return nil
}

// behindTurns is a lock that all called so many times, by turns. It is a fault if a call took too long.
func (k Trial) behindTurns(order []int, calls int) (*Run, error) {
	r, err := Start(k.Spec, k.Threads)
	if err != nil {
		return nil, err
	}
	if err := r.Turns(order, calls, k.longest(order)); err != nil {
		return nil, err
	}
	return r, k.Check(r)
}

// longest is how many doings of its thread a call to lock may take, if all do something by turns in that order: each of the others can be ahead, and has the lock first.
func (k Trial) longest(order []int) int {
	return (k.Alone + k.Have*(k.Threads-1)) * Most(order)
}

// EndsBehindMixedWays lets all go on by turns, however they stand behind a mixed way, and call twice more. It is a fault if a call takes too long.
func (k Trial) EndsBehindMixedWays() error {
	for seed := range 30 {
		r, err := Start(k.Spec, k.Threads)
		if err == nil {
			err = r.Mixed(uint64(seed), 20*k.Threads+seed)
		}
		if err == nil {
			l := Shuffled(k.Threads, uint64(seed))
			err = r.Turns(l, 2, k.longest(l))
		}
		if err == nil {
			err = k.Check(r)
		}
		if err != nil {
			return err
		}
	}
	return nil
}
