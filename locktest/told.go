package locktest

import (
	"slices"
	"strconv"

	"ropeline/api"
	"ropeline/exec"
	"ropeline/trace"
)

// What a thread can do, as Told says it.
const (
	Locks = iota
	Unlocks
	Steps
)

// Told is what a thread does next, what that comes to, and how all stands behind it: all cells, and the thread's registers.
type Told struct {
	Thread, How int
	Out         exec.Out
	Words       []uint32
	R           [api.Registers]uint32
}

// DoTold does what is told on a new lock at work, and it is a fault if anything comes otherwise. Who steps is late, or not.
func DoTold(s api.Spec, threads int, late bool, l []Told) error {
	x, e := exec.New(s, threads)
	if e != api.OK {
		return fault("the spec may not be")
	}
	for n, c := range l {
		if what := differs(x, c, late); what != "" {
			return fault("of what is told " + strconv.Itoa(n) + ", by the thread " + strconv.Itoa(c.Thread) + ", comes otherwise: " + what)
		}
	}
	return nil
}

// differs does what is told, and says what of it comes otherwise.
func differs(x *exec.Exec, c Told, late bool) string {
	o := do(x, c, late)
	switch {
	case !slices.Equal(o.Marks, c.Out.Marks):
		return "the marks are" + numbers(o.Marks)
	case o.Done != c.Out.Done:
		return "done is" + numbers([]int{o.Done})
	case o.Addr != c.Out.Addr:
		return "the address is" + numbers([]int{o.Addr})
	case o.Wrote != c.Out.Wrote:
		return "it wrote, or it didn't"
	case o.Stay != c.Out.Stay:
		return "it stays, or it doesn't"
	case o.E != c.Out.E:
		return "the error is" + numbers([]int{int(o.E)})
	}
	if w := x.Words(); !slices.Equal(w, c.Words) {
		return "the cells are" + numbers(w)
	}
	if r := x.Core(c.Thread).R; r != c.R {
		return "its registers are" + numbers(r[:])
	}
	return ""
}

func do(x *exec.Exec, c Told, late bool) exec.Out {
	if c.How == Steps {
		return x.Step(c.Thread, late)
	}
	return x.Begin(c.Thread, c.How == Unlocks)
}

// numbers are told with a blank ahead of each.
func numbers[T int | uint32](l []T) string {
	var b []byte
	for _, n := range l {
		b = strconv.AppendInt(append(b, ' '), int64(n), 10)
	}
	return string(b)
}

// ThreadsOf is whose the entries of a kind are, in their order.
func ThreadsOf(l []trace.Entry, kind int) []int {
	var its []int
	for _, x := range l {
		if x.Kind == kind {
			its = append(its, x.Thread)
		}
	}
	return its
}
