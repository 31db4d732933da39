package locktest

import (
	"slices"
	"strings"
	"testing"

	"ropeline/api"
	"ropeline/exec"
	"ropeline/trace"
)

// told is what the right lock does, of two threads.
func told() []Told {
	cells := func(next, turn uint32) []uint32 { return append([]uint32{next, turn, 2}, make([]uint32, 63)...) }
	return []Told{
		{0, Locks, exec.Out{Done: -1, Addr: -1}, cells(0, 0), [8]uint32{}},
		{1, Locks, exec.Out{Done: -1, Addr: -1}, cells(0, 0), [8]uint32{}},
		{0, Steps, exec.Out{Marks: []int{1}, Done: -1, Addr: 0, Wrote: true}, cells(1, 0), [8]uint32{}},
		{1, Steps, exec.Out{Marks: []int{1}, Done: -1, Addr: 0, Wrote: true}, cells(2, 0), [8]uint32{1: 1}},
		{1, Steps, exec.Out{Done: -1, Addr: 1, Stay: true}, cells(2, 0), [8]uint32{1: 1}},
		{0, Steps, exec.Out{Marks: []int{2}, Done: 1, Addr: 1}, cells(2, 0), [8]uint32{}},
		{0, Unlocks, exec.Out{Done: -1, Addr: -1}, cells(2, 0), [8]uint32{}},
		{0, Steps, exec.Out{Marks: []int{4}, Done: 2, Addr: 1, Wrote: true}, cells(2, 1), [8]uint32{}},
		{0, Steps, exec.Out{Done: -1, Addr: -1, E: api.ErrTrap}, cells(2, 1), [8]uint32{}},
		{1, Steps, exec.Out{Marks: []int{2}, Done: 1, Addr: 1}, cells(2, 1), [8]uint32{1: 1, 2: 1}},
	}
}

func TestWhatIsToldIsDone(t *testing.T) {
	for _, late := range []bool{false, true} {
		for n := range len(told()) + 1 {
			wantFine(t, n, DoTold(specOf(t, right, 2), 2, late, told()[:n]))
		}
	}
	wantTold(t, "three threads of two", DoTold(specOf(t, right, 2), 3, false, nil), "may not be")
}

func TestWhatComesOtherwiseIsTold(t *testing.T) {
	for _, c := range []struct {
		what   string
		change func(x *Told)
	}{
		{"the marks are 4", func(x *Told) { x.Out.Marks = nil }},
		{"the marks are 4", func(x *Told) { x.Out.Marks = []int{4, 4} }},
		{"done is 2", func(x *Told) { x.Out.Done = 1 }},
		{"the address is 1", func(x *Told) { x.Out.Addr = 2 }},
		{"wrote", func(x *Told) { x.Out.Wrote = false }},
		{"stays", func(x *Told) { x.Out.Stay = true }},
		{"the error is 0", func(x *Told) { x.Out.E = api.ErrTrap }},
		{"the cells are 2 1 2 0 0", func(x *Told) { x.Words[1] = 2 }},
		{"the cells are 2 1 2 0 0", func(x *Told) { x.Words = x.Words[:3] }},
		{"the registers are 0 0 0 0 0 0 0 0", func(x *Told) { x.R[7] = 1 }},
	} {
		l := told()
		c.change(&l[7])
		err := DoTold(specOf(t, right, 2), 2, false, l)
		wantTold(t, c.what, err, strings.TrimPrefix(c.what, "the "))
		wantTold(t, c.what, err, "told 7, by the thread 0,")
	}
}

// Only who is late leaves, so what is told of one who isn't comes otherwise.
func TestWhoStepsIsLateOrNot(t *testing.T) {
	out := exec.Out{Done: -1, Addr: -1}
	cells := func(next uint32) []uint32 { return append([]uint32{next, 0, 2}, make([]uint32, 63)...) }
	draws := exec.Out{Marks: []int{1}, Done: -1, Addr: 0, Wrote: true}
	l := []Told{
		{0, Locks, out, cells(0), [8]uint32{}},
		{0, Steps, draws, cells(1), [8]uint32{2: 9, 3: 2}},
		{1, Locks, out, cells(1), [8]uint32{}},
		{1, Steps, draws, cells(2), [8]uint32{1: 1, 2: 9, 3: 2}},
		{1, Steps, exec.Out{Done: -1, Addr: 3}, cells(2), [8]uint32{1: 1, 3: 2, 4: 1}},
	}
	wantTold(t, "late", DoTold(specOf(t, leaving, 2), 2, true, l), "")
	wantTold(t, "not late", DoTold(specOf(t, leaving, 2), 2, false, l), "it stays")
}

func TestThreadsOf(t *testing.T) {
	r := started(t, right, 3)
	wantFine(t, "turns", r.Turns([]int{2, 0, 1}, 2, 9))
	for _, kind := range []int{trace.Call, trace.Enq, trace.Grant, trace.Over} {
		if got := ThreadsOf(r.Entries, kind); !slices.Equal(got, []int{2, 0, 1, 2, 0, 1}) {
			t.Errorf("those of the kind %d are %v", kind, got)
		}
	}
	if got := ThreadsOf(r.Entries, trace.Abort); len(got) != 0 {
		t.Errorf("some left: %v", got)
	}
	if got := ThreadsOf(nil, trace.Call); len(got) != 0 {
		t.Errorf("of no entries: %v", got)
	}
}
