package exec

import (
	"fmt"
	"math"
	"slices"
	"strings"
	"testing"

	"ropeline/api"
	"ropeline/asm"
	"ropeline/core"
)

const top = 1<<32 - 1 // the greatest word

// farNumbers are no numbers of threads, nor of nodes; cut down to 32 bits, to 8 or to 6, many of them would be fine.
var farNumbers = []int{-1, -2, -64, 65, 128, 256, 257, 1 << 31, 1 << 32, 1<<32 + 1, -1 << 32, 1 - 1<<32, math.MaxInt, math.MinInt}

func assembled(t *testing.T, text string) api.Code {
	t.Helper()
	code, line, e := asm.Assemble(text)
	if e != api.OK {
		t.Fatalf("Assemble(%q): line %d, error %d", text, line, e)
	}
	return code
}

func started(t *testing.T, s api.Spec, threads int) *Exec {
	t.Helper()
	x, e := New(s, threads)
	if e != api.OK || x == nil || !Right(s, threads) {
		t.Fatalf("New(%+v, %d): error %d; Right: %v", s, threads, e, Right(s, threads))
	}
	if x.Threads() != threads {
		t.Fatalf("Threads() = %d, want %d", x.Threads(), threads)
	}
	return x
}

func wantRefused(t *testing.T, what any, s api.Spec, threads int) {
	t.Helper()
	if Right(s, threads) {
		t.Errorf("%v: Right says that it may be", what)
	}
	if x, e := New(s, threads); x != nil || e != api.ErrArg {
		t.Errorf("%v: New answers %v, error %d, want none, error %d", what, x, e, api.ErrArg)
	}
}

// What steps come to.

func nothing() Out                    { return Out{Done: -1, Addr: -1} }
func trapped() Out                    { return Out{Done: -1, Addr: -1, E: api.ErrTrap} }
func looked(addr int) Out             { return Out{Done: -1, Addr: addr} }
func wrote(addr int) Out              { return Out{Done: -1, Addr: addr, Wrote: true} }
func stays(addr int) Out              { return Out{Done: -1, Addr: addr, Stay: true} }
func over(o Out, done int) Out        { o.Done = done; return o }
func marked(o Out, marks ...int) Out  { o.Marks = marks; return o }
func withTrap(o Out, marks []int) Out { o.Marks, o.E = marks, api.ErrTrap; return o }

func sameOut(a, b Out) bool {
	return slices.Equal(a.Marks, b.Marks) && a.Done == b.Done && a.Addr == b.Addr && a.Wrote == b.Wrote && a.Stay == b.Stay && a.E == b.E
}

func wantOut(t *testing.T, what any, got, want Out) {
	t.Helper()
	if !sameOut(got, want) {
		t.Errorf("%+v comes to %+v, want %+v", what, got, want)
	}
}

// state is all that can be seen of a lock at work.
type state struct {
	cores []core.Core
	words []uint32
	outs  []int
}

func stateOf(x *Exec) state {
	s := state{words: x.Words()}
	for t := range x.Threads() {
		s.cores = append(s.cores, x.Core(t))
		s.outs = append(s.outs, x.Out(t))
	}
	return s
}

func (a state) same(b state) bool {
	return slices.Equal(a.cores, b.cores) && slices.Equal(a.words, b.words) && slices.Equal(a.outs, b.outs)
}

func wantState(t *testing.T, what any, x *Exec, want state) {
	t.Helper()
	if got := stateOf(x); !got.same(want) {
		t.Errorf("%+v:\nis   %+v\nwant %+v", what, got, want)
	}
}

func wantCore(t *testing.T, what any, x *Exec, thread int, want core.Core) {
	t.Helper()
	if got := x.Core(thread); got != want {
		t.Errorf("%+v: the core is %+v, want %+v", what, got, want)
	}
}

func wantWords(t *testing.T, what any, x *Exec, want ...uint32) {
	t.Helper()
	if got := x.Words(); !slices.Equal(got, want) {
		t.Errorf("%+v: the cells are %v, want %v", what, got, want)
	}
}

// model is a lock at work told plainly: areas as lists, handles as numbers, each thread's free ones in order. (How local instructions run on is layer 8's.)
type model struct {
	code  api.Code
	areas [][]uint32
	free  [][]uint32
	out   [][]uint32
	cores []core.Core
}

func modelOf(s api.Spec, threads int) *model {
	m := &model{code: asm.Copy(s.Code), free: make([][]uint32, threads), out: make([][]uint32, threads), cores: make([]core.Core, threads)}
	first := 0
	for _, size := range s.Sizes {
		m.areas = append(m.areas, slices.Clone(s.Init[first:first+size]))
		first += size
	}
	node := uint32(0)
	for t := range threads {
		m.cores[t].R[7] = s.R7[t]
		for range s.Each {
			node++
			m.free[t] = append(m.free[t], node)
		}
	}
	return m
}

func (m *model) state() state {
	s := state{cores: slices.Clone(m.cores), words: slices.Concat(m.areas...)}
	for t := range m.out {
		s.outs = append(s.outs, len(m.out[t]))
	}
	return s
}

// cell is the cell of a word in an area, and its address; nil, if there is none.
func (m *model) cell(area int, v uint32) (cell *uint32, addr int) {
	place := int(v % 4096)
	if area >= len(m.areas) || place >= len(m.areas[area]) {
		return nil, -1
	}
	for n := range area {
		addr += len(m.areas[n])
	}
	return &m.areas[area][place], addr + place
}

func (m *model) take(t int) uint32 {
	if len(m.free[t]) == 0 {
		return 0
	}
	h := m.free[t][0]
	m.free[t] = m.free[t][1:]
	m.out[t] = append(m.out[t], h)
	return h
}

func (m *model) bring(h uint32) bool {
	for t := range m.out {
		if n := slices.Index(m.out[t], h); n >= 0 {
			m.out[t] = slices.Delete(m.out[t], n, n+1)
			m.free[t] = append(m.free[t], (h+4096)%(1<<30))
			return true
		}
	}
	return h == 0
}

func (m *model) begin(t int, unlock bool) Out {
	out := nothing()
	m.cores[t], out.Marks, out.Done, out.E = core.Begin(m.cores[t], m.code, t, unlock)
	return out
}

func (m *model) step(t int, late bool) Out {
	c := m.cores[t]
	if c.Pc >= len(m.code.L) || m.code.L[c.Pc].Op < 16 {
		return trapped()
	}
	i, out, cell := m.code.L[c.Pc], nothing(), (*uint32)(nil)
	if i.Op <= 21 {
		if cell, out.Addr = m.cell(i.A, c.R[i.S]); cell == nil {
			return trapped()
		}
	}
	rS, rT, rU := c.R[i.S], c.R[i.T], c.R[i.U]
	c.Pc++
	switch i.Op {
	case 16:
		c.R[i.D] = *cell
	case 17:
		*cell, out.Wrote = rT, true
	case 18:
		c.R[i.D], *cell, out.Wrote = *cell, rT, true
	case 19:
		if *cell == rT {
			c.R[i.D], *cell, out.Wrote = 1, rU, true
		} else {
			c.R[i.D] = 0
		}
	case 20:
		c.R[i.D], *cell, out.Wrote = *cell, uint32((uint64(*cell)+uint64(i.K))%(1<<32)), true
	case 21:
		c.R[i.D] = *cell
		if i.K == 0 && *cell != rT || i.K == 1 && *cell == rT {
			if !late || i.To == -1 {
				m.cores[t].R[i.D] = *cell
				return stays(out.Addr)
			}
			c.Pc = i.To
		}
	case 22:
		c.R[i.D] = m.take(t)
	case 23:
		if !m.bring(rS) {
			return trapped()
		}
	}
	m.cores[t], out.Marks, out.Done, out.E = core.Run(c, m.code, t)
	return out
}

// onlyWhatItHas is an instruction without what its Op's row doesn't have.
func onlyWhatItHas(full api.Inst) api.Inst {
	has := map[int]string{1: "DK", 2: "DS", 3: "DSK", 4: "DSK", 5: "DSK", 6: "DSK", 7: "DST", 8: "STP", 9: "STP", 10: "P", 11: "D", 12: "K", 13: "K",
		16: "DAS", 17: "AST", 18: "DAST", 19: "DASTU", 20: "DASK", 21: "DASTKP", 22: "D", 23: "S"}[full.Op]
	i := full
	for letter, field := range map[rune]*int{'D': &i.D, 'S': &i.S, 'T': &i.T, 'U': &i.U, 'A': &i.A, 'P': &i.To} {
		if !strings.ContainsRune(has, letter) {
			*field = 0
		}
	}
	if !strings.ContainsRune(has, 'K') {
		i.K = 0
	}
	return i
}

// The places of a program that sets all registers and then comes to one instruction.
const (
	herePlace   = 8  // where that stands
	behindPlace = 9  // Mark 2, Done 1
	elsePlace   = 11 // Mark 3, Done 0
)

// setting is a lock whose call to lock sets the registers, and stops at i.
func setting(r [8]uint32, i api.Inst, sizes []int, init []uint32, each int) api.Spec {
	code := api.Code{Unlock: behindPlace}
	for n, v := range r {
		code.L = append(code.L, api.Inst{Op: api.Const, D: n, K: v})
	}
	code.L = append(code.L, i, api.Inst{Op: api.Mark, K: 2}, api.Inst{Op: api.Done, K: 1}, api.Inst{Op: api.Mark, K: 3}, api.Inst{Op: api.Done, K: 0})
	return api.Spec{Code: code, Sizes: sizes, Init: init, Each: each, R7: []uint32{0}}
}

// standingAt is a lock at work of one thread that stands at i with these registers.
func standingAt(t *testing.T, r [8]uint32, i api.Inst, sizes []int, init []uint32, each int) *Exec {
	t.Helper()
	x := started(t, setting(r, i, sizes, init, each), 1)
	wantOut(t, "Begin", x.Begin(0, false), nothing())
	wantCore(t, "Begin", x, 0, core.Core{R: r, Pc: herePlace})
	return x
}

// P10.1: each instruction of the memory

func TestExampleOfTheChapter(t *testing.T) {
	code := api.Code{L: []api.Inst{{Op: api.Fadd, D: 1, K: 1}, {Op: api.Done, K: 1}}, Unlock: 1}
	x := started(t, api.Spec{Code: code, Sizes: []int{1}, Init: []uint32{5}, R7: []uint32{9}}, 1)
	wantOut(t, "Begin", x.Begin(0, false), nothing())
	wantOut(t, "fadd", x.Step(0, false), over(wrote(0), 1))
	wantCore(t, "fadd", x, 0, core.Core{R: [8]uint32{1: 5, 7: 9}, Pc: 1})
	wantWords(t, "fadd", x, 6)
	wantOut(t, "unlock", x.Begin(0, true), over(nothing(), 1))
}

// Each is one step at cells 10, 20, 30 in the area 0 and 40, 50 in the area 2 (the area 1 is empty); r1 is what is asked, r2 and r3 go in, r4 comes out.
func TestOneStepOfEachInstruction(t *testing.T) {
	sizes, init := []int{3, 0, 2}, []uint32{10, 20, 30, 40, 50}
	for _, x := range []struct {
		i       api.Inst
		r1, r2  uint32
		out     Out
		r4      uint32
		changed int // the address of the cell that changes; -1: none does
		to      uint32
	}{
		{api.Inst{Op: api.Load, D: 4, A: 0, S: 1}, 0, 0, looked(0), 10, -1, 0},
		{api.Inst{Op: api.Load, D: 4, A: 0, S: 1}, 2, 0, looked(2), 30, -1, 0},
		{api.Inst{Op: api.Load, D: 4, A: 2, S: 1}, 1, 0, looked(4), 50, -1, 0},
		{api.Inst{Op: api.Load, D: 4, A: 2, S: 1}, 4096*7 + 1, 0, looked(4), 50, -1, 0},
		{api.Inst{Op: api.Load, D: 4, A: 0, S: 1}, top - 4095, 0, looked(0), 10, -1, 0},
		{api.Inst{Op: api.Store, A: 0, S: 1, T: 2}, 1, 7, wrote(1), 99, 1, 7},
		{api.Inst{Op: api.Store, A: 2, S: 1, T: 2}, 0, top, wrote(3), 99, 3, top},
		{api.Inst{Op: api.Store, A: 2, S: 1, T: 2}, 4096, 40, wrote(3), 99, -1, 0},
		{api.Inst{Op: api.Swap, D: 4, A: 0, S: 1, T: 2}, 2, 7, wrote(2), 30, 2, 7},
		{api.Inst{Op: api.Swap, D: 4, A: 2, S: 1, T: 2}, 1, 50, wrote(4), 50, -1, 0},
		{api.Inst{Op: api.Cas, D: 4, A: 0, S: 1, T: 2, U: 3}, 1, 20, wrote(1), 1, 1, 77},
		{api.Inst{Op: api.Cas, D: 4, A: 0, S: 1, T: 2, U: 3}, 1, 21, looked(1), 0, -1, 0},
		{api.Inst{Op: api.Cas, D: 4, A: 0, S: 1, T: 2, U: 3}, 1, 77, looked(1), 0, -1, 0},
		{api.Inst{Op: api.Cas, D: 4, A: 2, S: 1, T: 2, U: 2}, 0, 40, wrote(3), 1, -1, 0},
		{api.Inst{Op: api.Fadd, D: 4, A: 0, S: 1, K: 5}, 2, 0, wrote(2), 30, 2, 35},
		{api.Inst{Op: api.Fadd, D: 4, A: 2, S: 1, K: top}, 0, 0, wrote(3), 40, 3, 39},
		{api.Inst{Op: api.Fadd, D: 4, A: 2, S: 1, K: top - 48}, 1, 0, wrote(4), 50, 4, 1},
		{api.Inst{Op: api.Fadd, D: 4, A: 2, S: 1, K: 0}, 1, 0, wrote(4), 50, -1, 0},
		{api.Inst{Op: api.Await, D: 4, A: 0, S: 1, T: 2, To: -1}, 2, 30, looked(2), 30, -1, 0},
		{api.Inst{Op: api.Await, D: 4, A: 2, S: 1, T: 2, K: 1, To: -1}, 1, 51, looked(4), 50, -1, 0},
		{api.Inst{Op: api.Take, D: 4}, 2, 30, nothing(), 1, -1, 0},
		{api.Inst{Op: api.Free, S: 5}, 2, 30, nothing(), 99, -1, 0},
	} {
		r := [8]uint32{1: x.r1, 2: x.r2, 3: 77, 4: 99, 6: 66, 7: 55}
		lock := standingAt(t, r, x.i, sizes, init, 1)
		wantOut(t, x.i, lock.Step(0, false), over(marked(x.out, 2), 1))
		r[4] = x.r4
		wantCore(t, x.i, lock, 0, core.Core{R: r, Pc: behindPlace + 1})
		want := slices.Clone(init)
		if x.changed >= 0 {
			want[x.changed] = x.to
		}
		wantWords(t, x.i, lock, want...)
		if taken := x.i.Op == api.Take; lock.Out(0) == 1 != taken {
			t.Errorf("%+v: %d nodes are out", x.i, lock.Out(0))
		}
	}
}

// A fadd goes round at 2^32, up and down.
func TestFaddGoesRound(t *testing.T) {
	for _, x := range []struct{ was, k, is uint32 }{
		{0, 0, 0}, {0, 1, 1}, {top, 1, 0}, {0, top, top}, {top, top, top - 1}, {1 << 31, 1 << 31, 0}, {1<<31 - 1, 1, 1 << 31}, {3, top, 2}, {top - 1, 5, 3},
	} {
		lock := standingAt(t, [8]uint32{2: 8}, api.Inst{Op: api.Fadd, D: 2, K: x.k}, []int{1}, []uint32{x.was}, 0)
		wantOut(t, x, lock.Step(0, false), over(marked(wrote(0), 2), 1))
		wantWords(t, x, lock, x.is)
		if got := lock.Core(0).R[2]; got != x.was {
			t.Errorf("%v: rD is %d", x, got)
		}
	}
}

// Words are held against each other as a whole, not by some of their bits.
func TestCasAndAwaitHoldWholeWords(t *testing.T) {
	for bit := range 32 {
		for _, v := range []uint32{0, 1, 1 << 31, top, 0xdeadbeef} {
			r := [8]uint32{1: v ^ 1<<bit, 2: 5, 3: 5}
			x := standingAt(t, r, api.Inst{Op: api.Cas, D: 3, T: 1, U: 2}, []int{1}, []uint32{v}, 0)
			wantOut(t, "cas", x.Step(0, false), over(marked(looked(0), 2), 1))
			wantWords(t, "cas", x, v)
			x = standingAt(t, r, api.Inst{Op: api.Await, D: 3, T: 1, To: -1}, []int{1}, []uint32{v}, 0)
			wantOut(t, "await eq", x.Step(0, false), stays(0))
			x = standingAt(t, r, api.Inst{Op: api.Await, D: 3, T: 1, K: 1, To: -1}, []int{1}, []uint32{v}, 0)
			wantOut(t, "await ne", x.Step(0, false), over(marked(looked(0), 2), 1))
		}
	}
}

// P10.1: an await

// Each of the kinds, held or not, late or not, and with each sort of place to go to.
func TestAwait(t *testing.T) {
	for _, x := range []struct {
		k    uint32
		cell uint32
		late bool
		to   int
		want Out
		pc   int
	}{
		{0, 6, false, -1, over(marked(looked(0), 2), 1), behindPlace + 1},
		{0, 6, true, -1, over(marked(looked(0), 2), 1), behindPlace + 1},
		{0, 6, false, elsePlace, over(marked(looked(0), 2), 1), behindPlace + 1},
		{0, 6, true, elsePlace, over(marked(looked(0), 2), 1), behindPlace + 1},
		{0, 9, false, -1, stays(0), herePlace},
		{0, 9, true, -1, stays(0), herePlace},
		{0, 9, false, elsePlace, stays(0), herePlace},
		{0, 9, true, elsePlace, over(marked(looked(0), 3), 0), elsePlace + 1},
		{0, 9, true, 0, looked(0), herePlace},
		{0, 9, true, herePlace, looked(0), herePlace},
		{0, 9, true, behindPlace, over(marked(looked(0), 2), 1), behindPlace + 1},
		{0, 9, true, behindPlace + 1, over(looked(0), 1), behindPlace + 1},
		{1, 9, false, -1, over(marked(looked(0), 2), 1), behindPlace + 1},
		{1, 9, true, -1, over(marked(looked(0), 2), 1), behindPlace + 1},
		{1, 9, false, elsePlace, over(marked(looked(0), 2), 1), behindPlace + 1},
		{1, 9, true, elsePlace, over(marked(looked(0), 2), 1), behindPlace + 1},
		{1, 6, false, -1, stays(0), herePlace},
		{1, 6, true, -1, stays(0), herePlace},
		{1, 6, false, elsePlace, stays(0), herePlace},
		{1, 6, true, elsePlace, over(marked(looked(0), 3), 0), elsePlace + 1},
		{1, 6, true, 0, looked(0), herePlace},
		{1, 6, true, herePlace, looked(0), herePlace},
	} {
		r := [8]uint32{1: 1, 2: 6, 7: 7}
		i := api.Inst{Op: api.Await, D: 1, A: 0, S: 0, T: 2, K: x.k, To: x.to}
		lock := standingAt(t, r, i, []int{1}, []uint32{x.cell}, 0)
		wantOut(t, x, lock.Step(0, x.late), x.want)
		r[1] = x.cell
		if x.to == 0 && x.pc == herePlace { // All registers were set anew on the way.
			r[1] = 1
		}
		wantCore(t, x, lock, 0, core.Core{R: r, Pc: x.pc})
		wantWords(t, x, lock, x.cell)
	}
}

// Who stays looks again each step, till the cell is what it waits for; all that changes meanwhile is the register that it loads.
func TestWhoStaysGoesOnWhenTheCellIsWritten(t *testing.T) {
	code := assembled(t, "lock:\nmark 1\nawait r3 1 r0 eq r7\nmark 2\ndone 1\nunlock:\nfadd r5 1 r0 1\ndone 2\n")
	x := started(t, api.Spec{Code: code, Sizes: []int{2, 1}, Init: []uint32{6, 6, 0}, R7: []uint32{3, 0}}, 2)
	wantOut(t, "Begin", x.Begin(0, false), marked(nothing(), 1))
	for n := range uint32(3) {
		for range 4 {
			wantOut(t, n, x.Step(0, n%2 == 0), stays(2))
			wantState(t, n, x, state{
				[]core.Core{{R: [8]uint32{3: n, 7: 3}, Pc: 1}, {R: [8]uint32{5: max(n, 1) - 1}, Pc: int(min(n, 1)) * 5}},
				[]uint32{6, 6, n}, []int{0, 0},
			})
		}
		wantOut(t, n, x.Begin(1, true), nothing())
		wantOut(t, n, x.Step(1, false), over(wrote(2), 2))
	}
	wantOut(t, "granted", x.Step(0, false), over(marked(looked(2), 2), 1))
	wantCore(t, "granted", x, 0, core.Core{R: [8]uint32{3: 3, 7: 3}, Pc: 3})
}

// Whose rD is rT has, behind a look in vain, what the cell was as what it waits for.
func TestAwaitThatLoadsWhatItWaitsFor(t *testing.T) {
	x := standingAt(t, [8]uint32{1: 5}, api.Inst{Op: api.Await, D: 1, T: 1, To: -1}, []int{1}, []uint32{8}, 0)
	wantOut(t, "first look", x.Step(0, false), stays(0))
	wantCore(t, "first look", x, 0, core.Core{R: [8]uint32{1: 8}, Pc: herePlace})
	wantOut(t, "second look", x.Step(0, false), over(marked(looked(0), 2), 1))
	x = standingAt(t, [8]uint32{1: 8}, api.Inst{Op: api.Await, D: 1, T: 1, K: 1, To: -1}, []int{1}, []uint32{8}, 0)
	for range 3 {
		wantOut(t, "ne", x.Step(0, true), stays(0))
	}
}

// Whose rD is rS looks, behind a look in vain, at the cell of what the first one was.
func TestAwaitThatLoadsWhereItLooks(t *testing.T) {
	x := standingAt(t, [8]uint32{1: 1, 2: 9}, api.Inst{Op: api.Await, D: 1, S: 1, T: 2, To: -1}, []int{4}, []uint32{3, 2, 0, 7}, 0)
	for _, look := range []struct{ addr, was int }{{1, 2}, {2, 0}, {0, 3}, {3, 7}} {
		wantOut(t, look, x.Step(0, false), stays(look.addr))
		wantCore(t, look, x, 0, core.Core{R: [8]uint32{1: uint32(look.was), 2: 9}, Pc: herePlace})
	}
	before := stateOf(x)
	wantOut(t, "no such cell", x.Step(0, false), trapped())
	wantState(t, "no such cell", x, before)
}

// P10.1: what is asked is asked ahead of the step

// All registers of all instructions, like ones too: what r0 to r7 are is places, and what stands there.
func TestEachRegisterOfEachInstruction(t *testing.T) {
	init := []uint32{3, 0, 5, 5, 1, 2, 7, 1}
	for _, r := range [][8]uint32{{0, 1, 2, 3, 4, 5, 6, 7}, {3, 0, 5, 5, 1, 2, 7, 1}, {7, 7, 7, 1, 1, 0, 0, 4097}} {
		for op := api.Load; op <= api.Free; op++ {
			for i := range allRegisters(op) {
				for _, late := range []bool{false, true} {
					checkOneStep(t, setting(r, i, []int{8}, init, 1), late)
				}
			}
		}
	}
}

// allRegisters is each instruction of an Op with the area 0, each register, a K of 0 or 1, and an Await with and without a place.
func allRegisters(op int) map[api.Inst]bool {
	all := map[api.Inst]bool{}
	for n := range 8 * 8 * 8 * 8 {
		full := api.Inst{Op: op, D: n % 8, S: n / 8 % 8, T: n / 64 % 8, U: n / 512}
		for full.K = range uint32(2) {
			for _, full.To = range []int{-1, elsePlace} {
				all[onlyWhatItHas(full)] = true
			}
		}
	}
	return all
}

// checkOneStep holds a lock at work of one thread against the model, behind one step.
func checkOneStep(t *testing.T, s api.Spec, late bool) {
	t.Helper()
	x, m := started(t, s, 1), modelOf(s, 1)
	wantOut(t, s.Code, x.Begin(0, false), m.begin(0, false))
	wantOut(t, s.Code, x.Step(0, late), m.step(0, late))
	wantState(t, s.Code, x, m.state())
}

func TestOneRegisterForAll(t *testing.T) {
	for n := range 8 {
		var r, none [8]uint32
		r[n] = 1
		is := func(v uint32) core.Core {
			c := core.Core{R: none, Pc: behindPlace + 1}
			c.R[n] = v
			return c
		}
		for _, x := range []struct {
			i    api.Inst
			cell uint32
			out  Out
			rD   uint32
			then uint32
		}{
			{api.Inst{Op: api.Load, D: n, S: n}, 6, looked(1), 6, 6},
			{api.Inst{Op: api.Store, S: n, T: n}, 6, wrote(1), 1, 1},
			{api.Inst{Op: api.Swap, D: n, S: n, T: n}, 6, wrote(1), 6, 1},
			{api.Inst{Op: api.Cas, D: n, S: n, T: n, U: n}, 1, wrote(1), 1, 1},
			{api.Inst{Op: api.Cas, D: n, S: n, T: n, U: n}, 6, looked(1), 0, 6},
			{api.Inst{Op: api.Fadd, D: n, S: n, K: 2}, 6, wrote(1), 6, 8},
			{api.Inst{Op: api.Await, D: n, S: n, T: n, To: -1}, 1, looked(1), 1, 1},
			{api.Inst{Op: api.Await, D: n, S: n, T: n, K: 1, To: -1}, 6, looked(1), 6, 6},
		} {
			lock := standingAt(t, r, x.i, []int{2}, []uint32{9, x.cell}, 0)
			wantOut(t, x.i, lock.Step(0, false), over(marked(x.out, 2), 1))
			wantCore(t, x.i, lock, 0, is(x.rD))
			wantWords(t, x.i, lock, 9, x.then)
		}
	}
}

// P10.1: cells of areas

func TestEachCellOfEachArea(t *testing.T) {
	sizes := []int{2, 0, 1, 5, 0, 3, 4, 1}
	init := make([]uint32, 16)
	for a := range init {
		init[a] = uint32(100 + a)
	}
	addr := 0
	for area, size := range sizes {
		for place := range 7 {
			for _, over12 := range []uint32{0, 1, 1 << 17, 1<<20 - 1} {
				r := [8]uint32{1: over12<<12 | uint32(place), 2: 5}
				x := standingAt(t, r, api.Inst{Op: api.Swap, D: 3, A: area, S: 1, T: 2}, sizes, init, 0)
				if place >= size {
					before := stateOf(x)
					wantOut(t, "no cell", x.Step(0, true), trapped())
					wantState(t, "no cell", x, before)
					continue
				}
				wantOut(t, "a cell", x.Step(0, false), over(marked(wrote(addr+place), 2), 1))
				want := slices.Clone(init)
				want[addr+place] = 5
				wantWords(t, "a cell", x, want...)
				if got := x.Core(0).R[3]; got != uint32(100+addr+place) {
					t.Errorf("area %d, place %d: it was %d", area, place, got)
				}
			}
		}
		addr += size
	}
}

func TestAsManyCellsAsThereMayBe(t *testing.T) {
	init := make([]uint32, api.MaxCells)
	for a := range init {
		init[a] = uint32(3 * a)
	}
	for _, at := range []struct {
		area  int
		place uint32
	}{{0, 0}, {0, 4095}, {1, 0}, {1, 4095}, {1, 4096 + 4095}} {
		addr := 4096*at.area + int(at.place%4096)
		x := standingAt(t, [8]uint32{1: at.place}, api.Inst{Op: api.Fadd, D: 2, A: at.area, S: 1, K: top}, []int{4096, 4096}, init, 0)
		wantOut(t, at, x.Step(0, false), over(marked(wrote(addr), 2), 1))
		want := slices.Clone(init)
		want[addr]--
		if !slices.Equal(x.Words(), want) {
			t.Errorf("%v: other cells changed", at)
		}
	}
}

// P10.1: take and free

const nodesText = "lock:\ntake r1\ndone 1\nunlock:\nfree r1\ndone 2\n"

func taken(t *testing.T, x *Exec, thread int, want uint32) {
	t.Helper()
	wantOut(t, "lock", x.Begin(thread, false), nothing())
	wantOut(t, "take", x.Step(thread, false), over(nothing(), 1))
	if got := x.Core(thread).R[1]; got != want {
		t.Errorf("the handle is %d, want %d", got, want)
	}
}

func freed(t *testing.T, x *Exec, thread int) {
	t.Helper()
	wantOut(t, "unlock", x.Begin(thread, true), nothing())
	wantOut(t, "free", x.Step(thread, false), over(nothing(), 2))
}

func wantOutNodes(t *testing.T, x *Exec, want ...int) {
	t.Helper()
	if got := stateOf(x).outs; !slices.Equal(got, want) {
		t.Errorf("nodes out: %v, want %v", got, want)
	}
}

func TestTakeAndFree(t *testing.T) {
	x := started(t, api.Spec{Code: assembled(t, nodesText), Each: 2, R7: []uint32{8, 9, 10}}, 3)
	taken(t, x, 1, 3)
	taken(t, x, 1, 4)
	wantOutNodes(t, x, 0, 2, 0)
	taken(t, x, 1, 0)
	wantOutNodes(t, x, 0, 2, 0)
	freed(t, x, 1) // the handle 0: nothing
	wantOutNodes(t, x, 0, 2, 0)
	taken(t, x, 2, 5)
	taken(t, x, 0, 1)
	wantOutNodes(t, x, 1, 2, 1)
	freed(t, x, 2)
	wantOutNodes(t, x, 1, 2, 0)
	taken(t, x, 2, 6)
	taken(t, x, 2, 4096+5)
	taken(t, x, 2, 0)
	wantOutNodes(t, x, 1, 2, 2)
}

// Any thread frees a node, by its handle; to whom it comes back is told by the handle.
func TestFreeOfAnothersNode(t *testing.T) {
	code := assembled(t, "lock:\ntake r1\nstore 0 r0 r1\ndone 1\nunlock:\nload r2 0 r0\nfree r2\ndone 2\n")
	x := started(t, api.Spec{Code: code, Sizes: []int{1}, Init: []uint32{0}, Each: 1, R7: []uint32{0, 0}}, 2)
	for gen := range uint32(4) {
		x.Begin(0, false)
		wantOut(t, "take", x.Step(0, false), nothing())
		wantOut(t, "store", x.Step(0, false), over(wrote(0), 1))
		wantWords(t, "store", x, gen*4096+1)
		wantOutNodes(t, x, 1, 0)
		x.Begin(1, true)
		wantOut(t, "load", x.Step(1, false), looked(0))
		wantOut(t, "free", x.Step(1, false), over(nothing(), 2))
		wantOutNodes(t, x, 0, 0)
	}
	x.Begin(1, true)
	wantOut(t, "load", x.Step(1, false), looked(0))
	before := stateOf(x)
	wantOut(t, "free again", x.Step(1, false), trapped())
	wantState(t, "free again", x, before)
}

func TestAsManyNodesAsThereAreEach(t *testing.T) {
	for each := 0; each <= api.MaxEach; each++ {
		for _, threads := range []int{1, 2, api.MaxThreads} {
			x := started(t, api.Spec{Code: assembled(t, nodesText), Each: each, R7: make([]uint32, threads)}, threads)
			for thread := threads - 1; thread >= 0; thread-- {
				for n := range each {
					taken(t, x, thread, uint32(thread*each+1+n))
				}
				taken(t, x, thread, 0)
				taken(t, x, thread, 0)
				if x.Out(thread) != each || thread > 0 && x.Out(thread-1) != 0 {
					t.Errorf("%d each, thread %d: %d out", each, thread, x.Out(thread))
				}
			}
		}
	}
}

// The handle of a node leads to its cell, whatever its generation is.
func TestNodesHaveTheirCells(t *testing.T) {
	code := assembled(t, "lock:\ntake r1\nstore 1 r1 r7\nself r2\ndone 1\nunlock:\nload r3 1 r1\nfree r1\ndone 2\n")
	x := started(t, api.Spec{Code: code, Sizes: []int{1, 4}, Init: make([]uint32, 5), Each: 1, R7: []uint32{70, 71, 72}}, 3)
	for gen := range uint32(3) {
		for thread := range 3 {
			x.Begin(thread, false)
			wantOut(t, "take", x.Step(thread, false), nothing())
			wantOut(t, "store", x.Step(thread, false), over(wrote(thread+2), 1))
			if h := x.Core(thread).R[1]; h != gen*4096+uint32(thread)+1 {
				t.Errorf("thread %d, generation %d: the handle is %d", thread, gen, h)
			}
		}
		wantWords(t, gen, x, 0, 0, 70, 71, 72)
		for thread := range 3 {
			x.Begin(thread, true)
			wantOut(t, "load", x.Step(thread, false), looked(thread+2))
			wantOut(t, "free", x.Step(thread, false), over(nothing(), 2))
			want := core.Core{R: [8]uint32{1: gen*4096 + uint32(thread) + 1, 2: uint32(thread), 3: uint32(70 + thread), 7: uint32(70 + thread)}, Pc: 6}
			wantCore(t, "free", x, thread, want)
		}
	}
}

// P10.1: traps

// Nothing happens where no instruction of the memory stands. (Right programs don't lead ahead of the first place, so the core is set there.)
func TestTrapWhereNoInstructionOfTheMemoryStands(t *testing.T) {
	code := assembled(t, "lock:\nmark 1\ntake r1\nstore 0 r0 r7\nmark 2\njump lock\nunlock:\ndone 2\nstore 0 r0 r0\n")
	for _, place := range []int{0, 3, 4, 5, 7, 8, 63, 64, 1 << 32, 1<<32 + 1, math.MaxInt, -1, -2, -6, -7, -1 << 32, math.MinInt} {
		for _, late := range []bool{false, true} {
			x := started(t, api.Spec{Code: code, Sizes: []int{1}, Init: []uint32{5}, Each: 1, R7: []uint32{9, 9}}, 2)
			x.cores[1].Pc = place
			before := stateOf(x)
			wantOut(t, place, x.Step(1, late), trapped())
			wantState(t, place, x, before)
		}
	}
}

// Behind a call that is over, and at first, there stands no instruction of the memory (or one does).
func TestStepsOutsideACall(t *testing.T) {
	code := assembled(t, "lock:\ntake r1\ndone 1\nunlock:\nmark 4\ndone 2\n")
	x := started(t, api.Spec{Code: code, Each: 1, R7: []uint32{0, 0}}, 2)
	wantOut(t, "at first, the place is 0", x.Step(0, false), over(nothing(), 1))
	wantOut(t, "unlock", x.Begin(1, true), over(marked(nothing(), 4), 2))
	before := stateOf(x)
	for range 3 {
		wantOut(t, "over", x.Step(0, false), trapped())
		wantOut(t, "over", x.Step(1, true), trapped())
		wantState(t, "over", x, before)
	}
	wantOut(t, "unlock", x.Begin(0, true), over(marked(nothing(), 4), 2))
	wantOut(t, "lock", x.Begin(1, false), nothing())
	wantOut(t, "take", x.Step(1, false), over(nothing(), 1))
}

func TestTrapWhereThereIsNoSuchCell(t *testing.T) {
	for op := api.Load; op <= api.Await; op++ {
		for _, x := range []struct {
			sizes []int
			area  int
			place uint32
		}{
			{nil, 0, 0}, {nil, 7, 0}, {[]int{0}, 0, 0}, {[]int{1}, 0, 1}, {[]int{1}, 1, 0}, {[]int{3}, 0, 3}, {[]int{3}, 0, 4095}, {[]int{3}, 0, top},
			{[]int{3}, 7, 0}, {[]int{3, 0, 3}, 1, 0}, {[]int{3, 0, 3}, 0, 3}, {[]int{3, 0, 3}, 2, 3}, {[]int{3, 0, 3}, 2, 4096 + 3}, {[]int{3, 0, 3}, 3, 0},
			{[]int{1, 1, 1, 1, 1, 1, 1, 1}, 7, 1}, {[]int{4095}, 0, 4095}, {[]int{4096}, 1, 0},
		} {
			cells := 0
			for _, size := range x.sizes {
				cells += size
			}
			for _, late := range []bool{false, true} {
				i := onlyWhatItHas(api.Inst{Op: op, D: 2, A: x.area, S: 1, T: 3, U: 4, To: elsePlace})
				lock := standingAt(t, [8]uint32{1: x.place, 2: 22, 3: 33, 4: 44}, i, x.sizes, make([]uint32, cells), 1)
				before := stateOf(lock)
				wantOut(t, i, lock.Step(0, late), trapped())
				wantState(t, i, lock, before)
			}
		}
	}
}

func TestTrapOfFree(t *testing.T) {
	for _, h := range []uint32{1, 2, 3, 8, 4095, 4096, 4097, 1<<30 + 1, 1<<31 + 1, top} {
		for _, each := range []int{0, 1, 8} {
			x := standingAt(t, [8]uint32{3: h}, api.Inst{Op: api.Free, S: 3}, []int{2}, []uint32{4, 4}, each)
			before := stateOf(x)
			for range 2 {
				wantOut(t, h, x.Step(0, true), trapped())
				wantState(t, h, x, before)
			}
		}
	}
	code := assembled(t, "lock:\ntake r1\naddk r2 r1 4096\nunlock:\nfree r2\ndone 1\n")
	x := started(t, api.Spec{Code: code, Each: 1, R7: []uint32{0}}, 1)
	x.Begin(0, false)
	wantOut(t, "take", x.Step(0, false), nothing())
	before := stateOf(x)
	wantOut(t, "free of the next generation", x.Step(0, false), trapped())
	wantState(t, "free of the next generation", x, before)
	wantOutNodes(t, x, 1)
}

// looping is a program that does an access, and behind it n local instructions (from 206 to 260), the marks 1 to 4 by turns among them; then stands what is last.
func looping(n int, last ...api.Inst) api.Code {
	code := api.Code{L: []api.Inst{{Op: api.Fadd, D: 1, K: 7}, {Op: api.Const, D: 1, K: 100}, {Op: api.AddK, D: 1, S: 1, K: top}, {Op: api.Bne, S: 1, To: 2}}}
	for k := range n - 201 {
		code.L = append(code.L, api.Inst{Op: api.Mark, K: uint32(k%4 + 1)})
	}
	code.L = append(code.L, last...)
	code.Unlock = 1
	return code
}

func loopingMarks(n int) []int {
	var marks []int
	for k := range n - 201 {
		marks = append(marks, k%4+1)
	}
	return marks
}

// The access happens, and what ran behind it: only Run is a trap.
func TestTrapOfLocalInstructionsThatDoTooMuch(t *testing.T) {
	take, done := api.Inst{Op: api.Take, D: 6}, api.Inst{Op: api.Done, K: 3}
	for _, x := range []struct {
		n    int
		last []api.Inst
		met  int // how many of the local instructions are met
		done int
		e    api.Errno
	}{
		{206, []api.Inst{take}, 206, -1, api.OK},
		{206, []api.Inst{done}, 206, 3, api.OK},
		{206, nil, 206, -1, api.ErrTrap},
		{255, []api.Inst{take}, 255, -1, api.OK},
		{255, []api.Inst{done}, 255, 3, api.OK},
		{255, nil, 255, -1, api.ErrTrap},
		{256, []api.Inst{take}, 256, -1, api.OK},
		{256, []api.Inst{done}, 256, -1, api.ErrTrap},
		{256, nil, 256, -1, api.ErrTrap},
		{257, []api.Inst{take}, 256, -1, api.ErrTrap},
		{257, []api.Inst{done}, 256, -1, api.ErrTrap},
		{260, []api.Inst{take}, 256, -1, api.ErrTrap},
	} {
		code := looping(x.n, x.last...)
		lock := started(t, api.Spec{Code: code, Sizes: []int{1}, Init: []uint32{5}, R7: []uint32{9}}, 1)
		wantOut(t, "Begin", lock.Begin(0, false), nothing())
		want := Out{Marks: loopingMarks(x.met), Done: x.done, Addr: 0, Wrote: true, E: x.e}
		wantOut(t, x, lock.Step(0, true), want)
		wantCore(t, x, lock, 0, core.Core{R: [8]uint32{7: 9}, Pc: x.met - 201 + 4})
		wantWords(t, x, lock, 12)
		want.Addr, want.Wrote = -1, false
		wantOut(t, x, lock.Begin(0, true), want)
		wantCore(t, x, lock, 0, core.Core{R: [8]uint32{7: 9}, Pc: x.met - 201 + 4})
		wantWords(t, x, lock, 12)
	}
}

// Behind a trap of Run the core lies where it is: a step more is a trap of which nothing happens, and a call begins as any.
func TestBehindATrapOfRun(t *testing.T) {
	code := assembled(t, "lock:\nswap r1 0 r0 r7\nmark 1\nagain:\nmark 2\njump again\nunlock:\nload r2 0 r0\nmark 4\n")
	x := started(t, api.Spec{Code: code, Sizes: []int{1}, Init: []uint32{5}, R7: []uint32{9}}, 1)
	x.Begin(0, false)
	marks := []int{1}
	for n := 1; n < 256; n++ {
		if n%2 == 1 {
			marks = append(marks, 2)
		}
	}
	wantOut(t, "again and again", x.Step(0, false), withTrap(wrote(0), marks))
	wantState(t, "again and again", x, state{[]core.Core{{R: [8]uint32{1: 5, 7: 9}, Pc: 3}}, []uint32{9}, []int{0}})
	wantOut(t, "a step more", x.Step(0, false), trapped())
	wantState(t, "a step more", x, state{[]core.Core{{R: [8]uint32{1: 5, 7: 9}, Pc: 3}}, []uint32{9}, []int{0}})
	wantOut(t, "unlock", x.Begin(0, true), nothing())
	wantOut(t, "behind the last one", x.Step(0, false), withTrap(looked(0), []int{4}))
	wantState(t, "behind the last one", x, state{[]core.Core{{R: [8]uint32{1: 5, 2: 9, 7: 9}, Pc: 6}}, []uint32{9}, []int{0}})
	wantOut(t, "a step more", x.Step(0, true), trapped())
	wantState(t, "a step more", x, state{[]core.Core{{R: [8]uint32{1: 5, 2: 9, 7: 9}, Pc: 6}}, []uint32{9}, []int{0}})
	wantOut(t, "lock", x.Begin(0, false), nothing())
	wantCore(t, "lock", x, 0, core.Core{R: [8]uint32{1: 5, 2: 9, 7: 9}})
}

// An instruction of the memory that is the last one is done, though there is nothing to go on to.
func TestTheLastInstructionIsDone(t *testing.T) {
	for _, x := range []struct {
		text string
		out  Out
		r1   uint32
		word uint32
		out1 int
	}{
		{"load r1 0 r0", looked(0), 5, 5, 0},
		{"store 0 r0 r7", wrote(0), 0, 9, 0},
		{"swap r1 0 r0 r7", wrote(0), 5, 9, 0},
		{"cas r1 0 r0 r7 r0", looked(0), 0, 5, 0},
		{"fadd r1 0 r0 1", wrote(0), 5, 6, 0},
		{"await r1 0 r0 ne r0", looked(0), 5, 5, 0},
		{"take r1", nothing(), 1, 5, 1},
		{"free r0", nothing(), 0, 5, 0},
	} {
		code := assembled(t, "unlock:\nmark 3\nlock:\n"+x.text+"\n")
		lock := started(t, api.Spec{Code: code, Sizes: []int{1}, Init: []uint32{5}, Each: 1, R7: []uint32{9}}, 1)
		wantOut(t, "Begin", lock.Begin(0, true), marked(nothing(), 3))
		wantOut(t, x.text, lock.Step(0, false), withTrap(x.out, nil))
		wantState(t, x.text, lock, state{[]core.Core{{R: [8]uint32{1: x.r1, 7: 9}, Pc: 2}}, []uint32{x.word}, []int{x.out1}})
	}
}

// P10.1: Begin

func TestBeginOfEitherCall(t *testing.T) {
	code := assembled(t, "lock:\nself r1\nmark 1\nmark 3\nstore 0 r0 r1\ndone 1\nunlock:\nmark 4\nself r2\nmark 2\ndone 2\n")
	x := started(t, api.Spec{Code: code, Sizes: []int{1}, Init: []uint32{8}, Each: 1, R7: []uint32{50, 51, 52}}, 3)
	for _, thread := range []int{2, 0, 1, 2} {
		before := stateOf(x)
		wantOut(t, "lock", x.Begin(thread, false), marked(nothing(), 1, 3))
		before.cores[thread].R[1] = uint32(thread)
		before.cores[thread].Pc = 3
		wantState(t, "lock", x, before)
		wantOut(t, "unlock", x.Begin(thread, true), over(marked(nothing(), 4, 2), 2))
		before.cores[thread].R[2] = uint32(thread)
		before.cores[thread].Pc = 8
		wantState(t, "unlock", x, before)
	}
}

// Begin asks for nothing: wherever the core lies, the call begins, and registers stay as they are.
func TestBeginWhereverTheCoreLies(t *testing.T) {
	code := assembled(t, "lock:\nswap r1 0 r0 r7\nswap r2 0 r0 r7\nunlock:\nswap r3 0 r0 r7\ndone 1\n")
	x := started(t, api.Spec{Code: code, Sizes: []int{1}, Init: []uint32{1}, R7: []uint32{9}}, 1)
	for _, unlock := range []bool{false, false, true, true, false} {
		for range 3 {
			want := core.Core{R: x.Core(0).R}
			if unlock {
				want.Pc = 2
			}
			wantOut(t, unlock, x.Begin(0, unlock), nothing())
			wantCore(t, unlock, x, 0, want)
		}
		wantOut(t, "swap", x.Step(0, false), []Out{wrote(0), over(wrote(0), 1)}[x.Core(0).Pc/2])
	}
	wantCore(t, "behind all", x, 0, core.Core{R: [8]uint32{1: 9, 3: 9, 7: 9}, Pc: 1})
}

func TestBeginThatTraps(t *testing.T) {
	code := assembled(t, "lock:\nconst r1 5\nmark 1\nagain:\njump again\nunlock:\nself r2\nmark 4\n")
	x := started(t, api.Spec{Code: code, Sizes: []int{1}, Init: []uint32{3}, Each: 1, R7: []uint32{9, 8}}, 2)
	wantOut(t, "lock", x.Begin(1, false), withTrap(nothing(), []int{1}))
	wantCore(t, "lock", x, 1, core.Core{R: [8]uint32{1: 5, 7: 8}, Pc: 2})
	wantOut(t, "unlock", x.Begin(1, true), withTrap(nothing(), []int{4}))
	wantState(t, "unlock", x, state{[]core.Core{{R: [8]uint32{7: 9}}, {R: [8]uint32{1: 5, 2: 1, 7: 8}, Pc: 5}}, []uint32{3}, []int{0, 0}})
}

// P10.1: marks

func TestMarksInTheirOrder(t *testing.T) {
	for _, marks := range [][]int{{1}, {4}, {1, 2}, {2, 1}, {1, 1}, {4, 3, 2, 1}, {3, 3, 1, 2, 4, 4, 1}} {
		code := api.Code{L: []api.Inst{{Op: api.Load, D: 1}}, Unlock: 1}
		for _, k := range marks {
			code.L = append(code.L, api.Inst{Op: api.Mark, K: uint32(k)})
		}
		code.L = append(code.L, api.Inst{Op: api.Done, K: 1}, api.Inst{Op: api.Mark, K: 1})
		x := started(t, api.Spec{Code: code, Sizes: []int{1}, Init: []uint32{1}, R7: []uint32{0}}, 1)
		wantOut(t, "lock", x.Begin(0, false), nothing())
		wantOut(t, "load", x.Step(0, false), over(marked(looked(0), marks...), 1))
		wantOut(t, "unlock", x.Begin(0, true), over(marked(nothing(), marks...), 1))
	}
}

// P10.1: locks at work by several

const ticketText = "lock:\nfadd r1 0 r0 1\nmark 1\nawait r2 1 r0 eq r1\nmark 2\ndone 1\nunlock:\naddk r1 r1 1\nstore 1 r0 r1\nmark 4\ndone 2\n"

// Numbers go round: all draw one, by turns, and have the lock in that order.
func TestTicketsOfAsManyThreadsAsThereMayBe(t *testing.T) {
	for _, threads := range []int{1, 2, api.MaxThreads} {
		x := started(t, api.Spec{Code: assembled(t, ticketText), Sizes: []int{1, 1}, Init: []uint32{top, top}, R7: make([]uint32, threads)}, threads)
		for thread := threads - 1; thread >= 0; thread-- {
			wantOut(t, "lock", x.Begin(thread, false), nothing())
			wantOut(t, "draw", x.Step(thread, false), marked(wrote(0), 1))
		}
		for thread := threads - 1; thread >= 0; thread-- {
			turn := uint32(threads - 1 - thread)
			turn--
			for other := range thread {
				wantOut(t, "not yet", x.Step(other, true), stays(1))
			}
			wantOut(t, "now", x.Step(thread, false), over(marked(looked(1), 2), 1))
			wantCore(t, "now", x, thread, core.Core{R: [8]uint32{1: turn, 2: turn}, Pc: 4})
			wantOut(t, "unlock", x.Begin(thread, true), nothing())
			wantOut(t, "call", x.Step(thread, false), over(marked(wrote(1), 4), 2))
			wantWords(t, "call", x, uint32(threads-1), turn+1)
		}
	}
}

// Each thread has its own registers, place and nodes; a step of one leaves all others'.
func TestStepsLeaveOtherThreads(t *testing.T) {
	code := assembled(t, "lock:\nself r1\nstore 0 r1 r7\ntake r2\nfree r2\nswap r3 0 r1 r2\ndone 1\nunlock:\njump lock\n")
	r7 := []uint32{10, 11, 12, 13}
	x := started(t, api.Spec{Code: code, Sizes: []int{4}, Init: make([]uint32, 4), Each: 1, R7: r7}, 4)
	m := modelOf(api.Spec{Code: code, Sizes: []int{4}, Init: make([]uint32, 4), Each: 1, R7: r7}, 4)
	wantState(t, "at first", x, m.state())
	for n, thread := range []int{3, 3, 0, 3, 1, 1, 0, 2, 2, 2, 2, 3, 3, 0, 1, 2, 0, 0, 1, 1} {
		before := stateOf(x)
		if before.cores[thread].R[1] == uint32(thread) && before.cores[thread].Pc > 0 {
			wantOut(t, n, x.Step(thread, false), m.step(thread, false))
		} else {
			wantOut(t, n, x.Begin(thread, n%2 == 0), m.begin(thread, n%2 == 0))
		}
		after := stateOf(x)
		if !after.same(m.state()) {
			t.Errorf("step %d: is %+v, want %+v", n, after, m.state())
		}
		for other := range 4 {
			if other != thread && (after.cores[other] != before.cores[other] || after.outs[other] != before.outs[other]) {
				t.Errorf("step %d of thread %d: thread %d is another one", n, thread, other)
			}
		}
	}
}

// P10.1: what may be

// wide is a lock that may be, for as many threads.
func wide(t *testing.T, threads int) api.Spec {
	t.Helper()
	s := api.Spec{Code: assembled(t, ticketText), Sizes: []int{1, 2}, Init: []uint32{5, 6, 7}, Each: 3}
	for n := range max(min(threads, 1000), 0) {
		s.R7 = append(s.R7, uint32(1000+n))
	}
	return s
}

func TestThreadsThatMayBe(t *testing.T) {
	for threads := 1; threads <= api.MaxThreads; threads++ {
		s := wide(t, threads)
		x := started(t, s, threads)
		want := state{words: []uint32{5, 6, 7}}
		for n := range threads {
			want.cores = append(want.cores, core.Core{R: [8]uint32{7: uint32(1000 + n)}})
			want.outs = append(want.outs, 0)
		}
		wantState(t, threads, x, want)
	}
	for _, threads := range append(farNumbers, 0) {
		wantRefused(t, threads, wide(t, threads), threads)
		wantRefused(t, threads, wide(t, 1), threads)
		wantRefused(t, threads, wide(t, api.MaxThreads), threads)
	}
}

func TestEachThatMayBe(t *testing.T) {
	s := wide(t, 2)
	for s.Each = 0; s.Each <= api.MaxEach; s.Each++ {
		started(t, s, 2)
	}
	for _, each := range append(farNumbers, 9, 10, 16, 64) {
		s.Each = each
		wantRefused(t, each, s, 2)
	}
}

func TestR7HasAWordForEachThread(t *testing.T) {
	for threads := 1; threads <= api.MaxThreads; threads++ {
		for _, n := range []int{0, 1, threads - 1, threads + 1, threads + 2, 2 * threads, api.MaxThreads, api.MaxThreads + 1} {
			if n != threads {
				wantRefused(t, fmt.Sprint(n, " words for ", threads), wide(t, n), threads)
			}
		}
	}
}

func TestInitAndSizesThatMayBe(t *testing.T) {
	eight := []int{1, 0, 2, 0, 0, 0, 0, 1}
	for _, x := range []struct {
		sizes []int
		n     int
		may   bool
	}{
		{nil, 0, true}, {[]int{}, 0, true}, {[]int{0}, 0, true}, {[]int{3}, 3, true}, {eight, 4, true}, {[]int{4096}, 4096, true}, {[]int{4096, 4096}, 8192, true},
		{nil, 1, false}, {[]int{0}, 1, false}, {[]int{3}, 2, false}, {[]int{3}, 4, false}, {[]int{3}, 0, false}, {eight, 3, false}, {eight, 5, false},
		{append(slices.Clone(eight), 0), 4, false}, {append(slices.Clone(eight), 1), 5, false}, {[]int{-1}, 0, false}, {[]int{-1, 1}, 0, false}, {[]int{2, -1}, 1, false},
		{[]int{4097}, 4097, false}, {[]int{4096, 4096, 1}, 8193, false}, {[]int{4096, 4095, 2}, 8193, false}, {[]int{4096, 4096, 4096}, 12288, false},
		{[]int{math.MaxInt, math.MaxInt, 2}, 0, false}, {[]int{math.MinInt, math.MinInt}, 0, false},
	} {
		s := wide(t, 2)
		s.Sizes, s.Init = x.sizes, make([]uint32, x.n)
		if !x.may {
			wantRefused(t, x.sizes, s, 2)
			continue
		}
		if got := started(t, s, 2).Words(); !slices.Equal(got, s.Init) {
			t.Errorf("sizes %v: the cells are %v", x.sizes, got)
		}
	}
}

func TestCodeThatMayNotBe(t *testing.T) {
	good := assembled(t, ticketText)
	for n, change := range []func(c *api.Code){
		func(c *api.Code) { c.L = nil },
		func(c *api.Code) { c.L = []api.Inst{} },
		func(c *api.Code) { c.L = slices.Repeat([]api.Inst{{Op: api.Done}}, api.MaxCode+1) },
		func(c *api.Code) { c.Lock = -1 },
		func(c *api.Code) { c.Lock = len(c.L) },
		func(c *api.Code) { c.Unlock = -1 },
		func(c *api.Code) { c.Unlock = len(c.L) },
		func(c *api.Code) { c.L[0].Op = 0 },
		func(c *api.Code) { c.L[0].Op = 14 },
		func(c *api.Code) { c.L[0].Op = 24 },
		func(c *api.Code) { c.L[0].D = 8 },
		func(c *api.Code) { c.L[0].S = -1 },
		func(c *api.Code) { c.L[0].A = 8 },
		func(c *api.Code) { c.L[0].T = 1 },
		func(c *api.Code) { c.L[0].To = 1 },
		func(c *api.Code) { c.L[2].K = 2 },
		func(c *api.Code) { c.L[2].To = len(c.L) },
		func(c *api.Code) { c.L[2].To = -2 },
		func(c *api.Code) { c.L[len(c.L)-1].K = 4 },
	} {
		s := wide(t, 2)
		s.Code = asm.Copy(good)
		change(&s.Code)
		wantRefused(t, n, s, 2)
	}
	s := wide(t, 2)
	s.Code = api.Code{L: slices.Repeat([]api.Inst{{Op: api.Done}}, api.MaxCode), Lock: 63, Unlock: 63}
	started(t, s, 2)
	s.Code = api.Code{L: []api.Inst{{Op: api.Done}}}
	started(t, s, 2)
}

func TestWhatIsWrongInSeveralWays(t *testing.T) {
	wantRefused(t, "nothing", api.Spec{}, 0)
	wantRefused(t, "nothing, for one", api.Spec{}, 1)
	s := wide(t, 2)
	s.Each, s.Sizes, s.Code.Lock = 9, []int{-1}, -1
	wantRefused(t, "all", s, 65)
	s = wide(t, 0)
	s.Each = -1
	wantRefused(t, "no threads", s, 0)
}

// P10.1: nothing is shared

// room is a list that has some room behind it, so that what keeps it would see what is laid there.
func room[T any](l []T) []T { return append(make([]T, 0, len(l)+4), l...) }

func TestWhatIsChangedBehindChangesNoLock(t *testing.T) {
	for _, copied := range []bool{false, true} {
		s := api.Spec{Code: assembled(t, "lock:\ntake r1\nstore 0 r1 r7\ndone 1\nunlock:\nload r2 1 r0\nfree r1\nmark 4\ndone 2\n"), Sizes: []int{2, 3}, Init: []uint32{9, 9, 8, 8, 8}, Each: 1, R7: []uint32{3}}
		if copied {
			s.Code.L, s.Sizes, s.Init, s.R7 = room(s.Code.L), room(s.Sizes), room(s.Init), room(s.R7)
		}
		x := started(t, s, 1)
		for n := range s.Code.L {
			s.Code.L[n] = api.Inst{Op: api.Done, K: 3}
		}
		s.Code.Lock, s.Code.Unlock, s.Each = 2, 0, 7
		s.Sizes[0], s.Sizes[1] = 0, 0
		clear(s.Init)
		s.R7[0] = 77
		_, _, _, _ = append(s.Code.L, api.Inst{Op: api.Take}), append(s.Sizes, 1), append(s.Init, 1), append(s.R7, 1)
		wantState(t, "at first", x, state{[]core.Core{{R: [8]uint32{7: 3}}}, []uint32{9, 9, 8, 8, 8}, []int{0}})
		wantOut(t, "lock", x.Begin(0, false), nothing())
		wantOut(t, "take", x.Step(0, false), nothing())
		wantOut(t, "store", x.Step(0, false), over(wrote(1), 1))
		wantWords(t, "store", x, 9, 3, 8, 8, 8)
		wantOut(t, "unlock", x.Begin(0, true), nothing())
		wantOut(t, "load", x.Step(0, false), looked(2))
		wantOut(t, "free", x.Step(0, false), over(marked(nothing(), 4), 2))
		wantState(t, "behind all", x, state{[]core.Core{{R: [8]uint32{1: 1, 2: 8, 7: 3}, Pc: 6}}, []uint32{9, 3, 8, 8, 8}, []int{0}})
	}
}

func TestNothingIsWrittenIntoASpec(t *testing.T) {
	for _, threads := range []int{2, 3} {
		s, is := wide(t, 2), wide(t, 2)
		s.Code.L, s.Sizes, s.Init, s.R7 = room(s.Code.L), room(s.Sizes), room(s.Init), room(s.R7)
		Right(s, threads)
		if x, e := New(s, threads); e == api.OK {
			for thread := range threads {
				x.Begin(thread, false)
				x.Step(thread, false)
				x.Begin(thread, true)
				x.Step(thread, false)
			}
		}
		if !asm.Same(s.Code, is.Code) || !slices.Equal(s.Sizes, is.Sizes) || !slices.Equal(s.Init, is.Init) || !slices.Equal(s.R7, is.R7) || s.Each != is.Each {
			t.Errorf("for %d threads: the spec is %+v, was %+v", threads, s, is)
		}
		for _, behind := range [][]uint32{s.Init[:cap(s.Init)][len(s.Init):], s.R7[:cap(s.R7)][len(s.R7):]} {
			if slices.Max(behind) != 0 {
				t.Errorf("for %d threads: something is laid behind the lists", threads)
			}
		}
	}
}

func TestLocksOfOneSpecShareNothing(t *testing.T) {
	s := api.Spec{Code: assembled(t, "lock:\ntake r1\nstore 0 r0 r7\nunlock:\nfadd r2 0 r0 1\ndone 1\n"), Sizes: []int{1}, Init: []uint32{4}, Each: 1, R7: []uint32{3}}
	x, y := started(t, s, 1), started(t, s, 1)
	untouched := stateOf(y)
	x.Begin(0, false)
	wantOut(t, "take", x.Step(0, false), nothing())
	wantOut(t, "store", x.Step(0, false), wrote(0))
	wantState(t, "the other one", y, untouched)
	wantOut(t, "unlock", y.Begin(0, true), nothing())
	wantOut(t, "fadd", y.Step(0, false), over(wrote(0), 1))
	wantState(t, "x", x, state{[]core.Core{{R: [8]uint32{1: 1, 7: 3}, Pc: 2}}, []uint32{3}, []int{1}})
	wantState(t, "y", y, state{[]core.Core{{R: [8]uint32{2: 4, 7: 3}, Pc: 3}}, []uint32{5}, []int{0}})
}

func TestWhatIsAnsweredIsItsOwn(t *testing.T) {
	code := assembled(t, "lock:\nmark 1\nmark 2\nfadd r1 0 r0 1\nmark 3\nmark 4\nawait r2 0 r0 eq r7\nunlock:\nmark 2\ndone 1\n")
	x := started(t, api.Spec{Code: code, Sizes: []int{2}, Init: []uint32{4, 5}, R7: []uint32{9}}, 1)
	first, firstWords, firstCore := x.Begin(0, false), x.Words(), x.Core(0)
	second, secondWords := x.Step(0, false), x.Words()
	before := stateOf(x)
	wantOut(t, "lock", first, marked(nothing(), 1, 2))
	wantOut(t, "fadd", second, marked(wrote(0), 3, 4))
	if !slices.Equal(firstWords, []uint32{4, 5}) || !slices.Equal(secondWords, []uint32{5, 5}) || firstCore != (core.Core{R: [8]uint32{7: 9}, Pc: 2}) {
		t.Errorf("what was answered is %v, %v, %v now", firstWords, secondWords, firstCore)
	}
	for _, l := range [][]int{first.Marks, second.Marks} {
		for n := range l[:cap(l)] {
			l[:cap(l)][n] = 77
		}
	}
	firstWords[0], secondWords[1], firstCore.R[3] = 70, 71, 72
	wantState(t, "what was answered is changed", x, before)
	wantOut(t, "await", x.Step(0, false), stays(0))
	wantOut(t, "lock", x.Begin(0, false), marked(nothing(), 1, 2))
	wantOut(t, "fadd", x.Step(0, false), marked(wrote(0), 3, 4))
	wantWords(t, "fadd", x, 6, 5)
	if !slices.Equal(firstWords, []uint32{70, 5}) {
		t.Errorf("what was answered is %v now", firstWords)
	}
}

func TestAskingChangesNothing(t *testing.T) {
	x := started(t, wide(t, 2), 2)
	x.Begin(1, false)
	x.Step(1, false)
	before := stateOf(x)
	for range 3 {
		stateOf(x)
		wantState(t, "asked", x, before)
	}
}

// Nothing is promised of threads that there aren't but an end, so what is asked here is just that, and that those that there are are left.
func TestThreadsThatThereAreNotEnd(t *testing.T) {
	for _, threads := range []int{1, 2, api.MaxThreads} {
		s := wide(t, threads)
		s.Code = assembled(t, "lock:\nunlock:\ntake r1\nstore 0 r0 r0\ndone 1\n")
		x := started(t, s, threads)
		before := stateOf(x)
		for _, thread := range append(farNumbers, threads, threads+1) {
			if thread >= 0 && thread < threads {
				continue
			}
			x.Begin(thread, false)
			x.Begin(thread, true)
			x.Step(thread, false)
			x.Step(thread, true)
			x.Core(thread)
			x.Out(thread)
			wantState(t, thread, x, before)
		}
	}
}

// P10.2

// Instructions of the memory one behind the other are one step each.
func TestEachInstructionOfTheMemoryIsAStep(t *testing.T) {
	text := "lock:\nunlock:\n"
	for n := range 8 {
		text += fmt.Sprintf("store 0 r%d r7\nfadd r6 1 r%d 1\ntake r5\n", n%4, n%4)
	}
	x := started(t, api.Spec{Code: assembled(t, text+"done 1\n"), Sizes: []int{1, 1}, Init: []uint32{5, 0}, Each: 8, R7: []uint32{9}}, 1)
	wantOut(t, "lock", x.Begin(0, false), nothing())
	for n := range 8 {
		wantCore(t, n, x, 0, core.Core{R: [8]uint32{5: uint32(n), 6: uint32(max(n, 1) - 1), 7: 9}, Pc: 3 * n})
		wantOut(t, n, x.Step(0, false), wrote(0))
		wantWords(t, n, x, 9, uint32(n))
		wantOut(t, n, x.Step(0, false), wrote(1))
		wantWords(t, n, x, 9, uint32(n+1))
		wantOutNodes(t, x, n)
		want := nothing()
		if n == 7 {
			want.Done = 1
		}
		wantOut(t, n, x.Step(0, false), want)
		wantWords(t, n, x, 9, uint32(n+1))
		wantOutNodes(t, x, n+1)
	}
}

// All local instructions behind a step are done with it: loops, branches, places behind and ahead.
func TestLocalInstructionsAreDoneWithTheStep(t *testing.T) {
	code := assembled(t, "lock:\nload r1 0 r0\nmark 1\nagain:\nmark 2\naddk r1 r1 4294967295\nbne r1 r0 again\njump far\nback:\nself r2\nor r3 r2 r7\nshl r4 r3 4\nmark 4\ncas r5 0 r0 r7 r4\nconst r6 1\nbeq r5 r6 did\ndone 0\nfar:\nmark 3\njump back\ndid:\ndone 1\nunlock:\ntake r1\nmark 1\nfree r1\nmark 2\ndone 3\n")
	x := started(t, api.Spec{Code: code, Sizes: []int{1}, Init: []uint32{3}, Each: 1, R7: []uint32{3, 8}}, 2)
	for _, c := range []struct {
		thread int
		r      [8]uint32
		out    Out
		pc     int
		word   uint32
	}{
		{1, [8]uint32{2: 1, 3: 9, 4: 144, 5: 0, 6: 1, 7: 8}, over(looked(0), 0), 13, 3},
		{0, [8]uint32{2: 0, 3: 3, 4: 48, 5: 1, 6: 1, 7: 3}, over(wrote(0), 1), 16, 48},
	} {
		wantOut(t, "lock", x.Begin(c.thread, false), nothing())
		wantOut(t, "load", x.Step(c.thread, false), marked(looked(0), 1, 2, 2, 2, 3, 4))
		now := c.r
		now[5], now[6] = 0, 0
		wantCore(t, "load", x, c.thread, core.Core{R: now, Pc: 10})
		wantOut(t, "cas", x.Step(c.thread, false), c.out)
		wantCore(t, "cas", x, c.thread, core.Core{R: c.r, Pc: c.pc})
		wantWords(t, "cas", x, c.word)
		wantOut(t, "unlock", x.Begin(c.thread, true), nothing())
		wantOut(t, "take", x.Step(c.thread, false), marked(nothing(), 1))
		wantOut(t, "free", x.Step(c.thread, false), over(marked(nothing(), 2), 3))
		wantOutNodes(t, x, 0, 0)
	}
}

// P10.1 and P10.2: any programs, behind any steps

// dice gives numbers that look mixed, the same ones each time.
type dice uint64

func (d *dice) below(n int) int {
	*d = *d*6364136223846793005 + 1442695040888963407
	return int(uint64(*d)>>33) % n
}

// word is small most times, so that cells are found, and words alike.
func (d *dice) word() uint32 {
	edges := []uint32{4096, 4097, 8193, 1 << 31, top - 1, top}
	if d.below(6) == 0 {
		return edges[d.below(len(edges))]
	}
	return uint32(d.below(4))
}

// inst is a right instruction, one of the memory most times.
func (d *dice) inst(places, areas int) api.Inst {
	ops := []int{1, 2, 3, 4, 5, 6, 7, 8, 9, 10, 11, 12, 12, 13, 16, 17, 18, 19, 19, 20, 21, 21, 21, 22, 22, 23, 23, 23}
	full := api.Inst{Op: ops[d.below(len(ops))], D: d.below(8), S: d.below(8), T: d.below(8), U: d.below(8), A: d.below(areas), K: d.word(), To: d.below(places)}
	switch full.Op {
	case api.Shl, api.Shr:
		full.K %= 32
	case api.Mark:
		full.K = full.K%4 + 1
	case api.Done:
		full.K %= 4
	case api.Await:
		full.K %= 2
		if d.below(2) == 0 {
			full.To = -1
		}
	case api.Take:
		full.D = 4 + d.below(2) // so that those that are out are found when they are to be free
	case api.Free:
		full.S = 4 + d.below(2)
	}
	return onlyWhatItHas(full)
}

func (d *dice) spec(threads int) api.Spec {
	s := api.Spec{Each: d.below(4)}
	for range 1 + d.below(4) {
		size := 1 + d.below(5)*d.below(3)
		s.Sizes = append(s.Sizes, size)
		for range size {
			s.Init = append(s.Init, d.word())
		}
	}
	for range threads {
		s.R7 = append(s.R7, d.word())
	}
	places := 1 + d.below(20)
	for range places {
		s.Code.L = append(s.Code.L, d.inst(places, min(len(s.Sizes)+d.below(2), 8)))
	}
	s.Code.Lock, s.Code.Unlock = d.below(places), d.below(places)
	return s
}

// changedCells tells how many cells two states have unlike, and the last one.
func changedCells(a, b state) (n, addr int) {
	addr = -1
	for k := range a.words {
		if a.words[k] != b.words[k] {
			n, addr = n+1, k
		}
	}
	return n, addr
}

// seen counts what steps came to, so that it shows if some sort never came up.
type seen map[string]int

func (s seen) count(o Out, op int) {
	switch {
	case o.Stay:
		s["stays"]++
	case o.E != api.OK && o.Addr == -1 && op == api.Free:
		s["free that traps"]++
	case o.E != api.OK && o.Addr == -1 && op >= api.Load:
		s["no such cell"]++
	case o.E != api.OK && o.Addr == -1:
		s["nothing stands there"]++
	case o.E != api.OK:
		s["a trap behind an access"]++
	case o.Done >= 0:
		s["done"]++
	}
	if o.E == api.OK {
		s[fmt.Sprintf("op %d, wrote %v", op, o.Wrote)]++
	}
}

// checkLocal asks what a step that is no trap leaves: one cell changed at most, that whose address is told, and no local instruction to be done.
func checkLocal(t *testing.T, s api.Spec, x *Exec, before state, thread int, o Out) {
	t.Helper()
	n, addr := changedCells(before, stateOf(x))
	if n > 1 || n == 1 && (addr != o.Addr || !o.Wrote) {
		t.Errorf("a step that comes to %+v changes %d cells, one at %d", o, n, addr)
	}
	if pc := x.Core(thread).Pc; o.E == api.OK && o.Done == -1 && opAt(s, pc) < api.Load {
		t.Errorf("a step that comes to %+v leaves the place %d", o, pc)
	}
}

func opAt(s api.Spec, pc int) int {
	if pc >= len(s.Code.L) {
		return 0
	}
	return s.Code.L[pc].Op
}

func TestAnyProgramsBehindAnySteps(t *testing.T) {
	d, came := dice(10), seen{}
	for round := range 6000 {
		threads := 1 + d.below(4)
		s := d.spec(threads)
		x, m := started(t, s, threads), modelOf(s, threads)
		over := make([]bool, threads)
		for range 40 {
			thread, flag := d.below(threads), d.below(2) == 0
			before := stateOf(x)
			if over[thread] || d.below(8) == 0 {
				got, want := x.Begin(thread, flag), m.begin(thread, flag)
				wantOut(t, s, got, want)
				checkLocal(t, s, x, before, thread, got)
				over[thread] = want.Done >= 0 || want.E != api.OK
			} else {
				got, want := x.Step(thread, flag), m.step(thread, flag)
				wantOut(t, s, got, want)
				checkLocal(t, s, x, before, thread, got)
				came.count(want, opAt(s, before.cores[thread].Pc))
				over[thread] = d.below(2) == 0 && (want.Done >= 0 || want.E != api.OK)
			}
			wantState(t, s, x, m.state())
			if t.Failed() {
				t.Fatalf("round %d", round)
			}
		}
	}
	for _, what := range []string{"stays", "free that traps", "no such cell", "nothing stands there", "a trap behind an access", "done",
		"op 16, wrote false", "op 17, wrote true", "op 18, wrote true", "op 19, wrote true", "op 19, wrote false", "op 20, wrote true", "op 21, wrote false", "op 22, wrote false", "op 23, wrote false"} {
		if came[what] < 200 {
			t.Errorf("%s: came up %d times alone", what, came[what])
		}
	}
}
