package core

import (
	"fmt"
	"math"
	"slices"
	"testing"

	"ropeline/api"
	"ropeline/asm"
	"ropeline/inst"
)

const (
	top  = 1<<32 - 1 // the greatest word
	none = -1        // the call isn't over
)

// localOps and memoryOps are all instructions there are.
var (
	localOps  = []int{1, 2, 3, 4, 5, 6, 7, 8, 9, 10, 11, 12, 13}
	memoryOps = []int{16, 17, 18, 19, 20, 21, 22, 23}
)

// mixed are registers that are all unlike each other, with the edges among them.
var mixed = [8]uint32{0, 1, top, 0x80000000, 0x7fffffff, 0xdeadbeef, 63, 0x00ff00ff}

// stop is all that Run and Begin answer.
type stop struct {
	c     Core
	marks []int
	done  int
	e     api.Errno
}

func run(c Core, code api.Code, self int) stop {
	next, marks, done, e := Run(c, code, self)
	return stop{next, marks, done, e}
}

func begin(c Core, code api.Code, self int, unlock bool) stop {
	next, marks, done, e := Begin(c, code, self, unlock)
	return stop{next, marks, done, e}
}

func (a stop) same(b stop) bool {
	return a.c == b.c && slices.Equal(a.marks, b.marks) && a.done == b.done && a.e == b.e
}

func (a stop) String() string {
	return fmt.Sprintf("%v, marks %v, done %d, error %d", a.c, a.marks, a.done, a.e)
}

func wantStop(t *testing.T, what any, got, want stop) {
	t.Helper()
	if !got.same(want) {
		t.Errorf("%+v:\ngot  %v\nwant %v", what, got, want)
	}
}

func wantOne(t *testing.T, c Core, i api.Inst, self int, want Core) {
	t.Helper()
	if got := One(c, i, self); got != want {
		t.Errorf("One(%v, %+v, %d) = %v, want %v", c, i, self, got, want)
	}
}

func assembled(t *testing.T, text string) api.Code {
	t.Helper()
	code, line, e := asm.Assemble(text)
	if e != api.OK {
		t.Fatalf("Assemble(%q): line %d, error %d", text, line, e)
	}
	return code
}

// modelOne is what package api says of a right local instruction, in numbers beyond words, and bit by bit.
func modelOne(c Core, i api.Inst, self int) Core {
	const words = 1 << 32
	s, t, k := int(c.R[i.S]), int(c.R[i.T]), int(i.K)
	bits := func(has func(a, b int) bool, a, b int) int {
		v := 0
		for n := range 32 {
			if has(a>>n%2, b>>n%2) {
				v += 1 << n
			}
		}
		return v
	}
	d, pc := -1, c.Pc+1
	switch i.Op {
	case 1:
		d = k
	case 2:
		d = s
	case 3:
		d = (s + k) % words
	case 4:
		d = bits(func(a, b int) bool { return a == 1 && b == 1 }, s, k)
	case 5:
		d = s
		for range k {
			d = d * 2 % words
		}
	case 6:
		d = s
		for range k {
			d /= 2
		}
	case 7:
		d = bits(func(a, b int) bool { return a == 1 || b == 1 }, s, t)
	case 8:
		if s == t {
			pc = i.To
		}
	case 9:
		if s != t {
			pc = i.To
		}
	case 10:
		pc = i.To
	case 11:
		d = self
	case 13:
		pc = c.Pc
	}
	if d >= 0 {
		c.R[i.D] = uint32(d)
	}
	c.Pc = pc
	return c
}

// modelRun is what the chapter says of how a core runs on.
func modelRun(c Core, code api.Code, self int) stop {
	var marks []int
	for count := 0; ; count++ {
		if c.Pc < 0 || c.Pc >= len(code.L) {
			return stop{c, marks, none, api.ErrTrap}
		}
		i := code.L[c.Pc]
		if slices.Contains(memoryOps, i.Op) {
			return stop{c, marks, none, api.OK}
		}
		if count == 256 {
			return stop{c, marks, none, api.ErrTrap}
		}
		c = modelOne(c, i, self)
		if i.Op == api.Mark {
			marks = append(marks, int(i.K))
		}
		if i.Op == api.Done {
			return stop{c, marks, int(i.K), api.OK}
		}
	}
}

// dice gives numbers that look mixed, the same ones each time.
type dice uint64

func (d *dice) below(n int) int {
	*d = *d*6364136223846793005 + 1442695040888963407
	return int(uint64(*d)>>33) % n
}

func (d *dice) word() uint32 {
	edges := []uint32{0, 1, 2, 31, 32, 63, 0x7fffffff, 0x80000000, top - 1, top}
	if d.below(2) == 0 {
		return edges[d.below(len(edges))]
	}
	return uint32(d.below(1<<16))<<16 | uint32(d.below(1<<16))
}

// inst is a right instruction of an Op, with as many places.
func (d *dice) inst(op, places int) api.Inst {
	full := api.Inst{Op: op, D: d.below(8), S: d.below(8), T: d.below(8), U: d.below(8), A: d.below(8), K: d.word(), To: d.below(places)}
	for _, k := range []uint32{full.K, full.K % 32, full.K % 4, 1 + full.K%4, full.K % 2} {
		if i := onlyWhatItHas(full, k); inst.Right(i, places) {
			return i
		}
	}
	panic(fmt.Sprintf("no instruction of Op %d", op))
}

// onlyWhatItHas is an instruction with that K, and without what its Op's row doesn't have.
func onlyWhatItHas(full api.Inst, k uint32) api.Inst {
	has := map[int]string{1: "DK", 2: "DS", 3: "DSK", 4: "DSK", 5: "DSK", 6: "DSK", 7: "DST", 8: "STP", 9: "STP", 10: "P", 11: "D", 12: "K", 13: "K",
		16: "DAS", 17: "AST", 18: "DAST", 19: "DASTU", 20: "DASK", 21: "DASTKP", 22: "D", 23: "S"}
	i := api.Inst{Op: full.Op}
	for _, letter := range has[full.Op] {
		switch letter {
		case 'D':
			i.D = full.D
		case 'S':
			i.S = full.S
		case 'T':
			i.T = full.T
		case 'U':
			i.U = full.U
		case 'A':
			i.A = full.A
		case 'K':
			i.K = k
		case 'P':
			i.To = full.To
		}
	}
	return i
}

func (d *dice) core(places int) Core {
	c := Core{Pc: d.below(places)}
	few := d.below(3) == 0 // so that branches find registers alike
	for n := range c.R {
		c.R[n] = d.word()
		if few {
			c.R[n] %= 2
		}
	}
	return c
}

func (d *dice) code(places int, ops []int) api.Code {
	code := api.Code{Lock: d.below(places), Unlock: d.below(places)}
	for range places {
		code.L = append(code.L, d.inst(ops[d.below(len(ops))], places))
	}
	return code
}

// counted is a core and a program that does n local instructions (from 200 to 261), and then comes to what is last; if nothing is, to the place behind it.
func counted(n int, last ...api.Inst) (Core, api.Code) {
	code := api.Code{L: []api.Inst{{Op: api.AddK, D: 1, S: 1, K: top}, {Op: api.Bne, S: 1}}}
	for range n - 200 {
		code.L = append(code.L, api.Inst{Op: api.Mark, K: uint32(len(code.L)%4 + 1)})
	}
	code.L = append(code.L, last...)
	return Core{R: [8]uint32{1: 100}}, code
}

// countedMarks is what counted has met, when it has done n.
func countedMarks(n int) []int {
	var marks []int
	for place := 2; place < n-200+2; place++ {
		marks = append(marks, place%4+1)
	}
	return marks
}

// memoryInsts is a right instruction of each Op of the memory, and of each shape of an Await.
func memoryInsts() []api.Inst {
	return []api.Inst{
		{Op: 16, D: 1, A: 2, S: 3}, {Op: 17, A: 1, S: 2, T: 3}, {Op: 18, D: 1, A: 2, S: 3, T: 4}, {Op: 19, D: 1, A: 2, S: 3, T: 4, U: 5},
		{Op: 20, D: 1, A: 2, S: 3, K: top}, {Op: 21, D: 1, T: 2, To: -1}, {Op: 21, D: 1, T: 2, K: 1}, {Op: 22, D: 6}, {Op: 23, S: 6},
	}
}

// P8.1: One

func TestOneOfEachRegister(t *testing.T) {
	d := dice(1)
	for _, op := range localOps {
		for n := range 8 * 8 * 8 {
			i := d.inst(op, 64)
			full := i
			full.D, full.S, full.T = n%8, n/8%8, n/64
			i = onlyWhatItHas(full, i.K)
			for _, self := range []int{0, 1, 31, 63} {
				alike := [8]uint32{}
				for r := range alike {
					alike[r] = 7
				}
				for _, r := range [][8]uint32{mixed, alike, {}} {
					c := Core{R: r, Pc: d.below(64)}
					wantOne(t, c, i, self, modelOne(c, i, self))
				}
			}
		}
	}
}

func TestOneOfWords(t *testing.T) {
	for _, x := range []struct {
		op      int
		s, t, k uint32
		want    uint32
	}{
		{api.Const, 5, 6, 0, 0},
		{api.Const, 5, 6, 5, 5},
		{api.Const, 5, 6, top, top},
		{api.Move, 0, 6, 0, 0},
		{api.Move, top, 6, 0, top},
		{api.AddK, 0, 0, 0, 0},
		{api.AddK, top, 0, 0, top},
		{api.AddK, 0, 0, top, top},
		{api.AddK, top, 0, 1, 0},
		{api.AddK, 1, 0, top, 0},
		{api.AddK, top, 0, 3, 2},
		{api.AddK, top, 0, top, top - 1},
		{api.AddK, 0x80000000, 0, 0x80000000, 0},
		{api.AddK, 0x7fffffff, 0, 1, 0x80000000},
		{api.AndK, top, 0, top, top},
		{api.AndK, top, 0, 0, 0},
		{api.AndK, 0, 0, top, 0},
		{api.AndK, 0x12345678, 0, 0xfff, 0x678},
		{api.AndK, 0xf0f0f0f0, 0, 0x0f0f0f0f, 0},
		{api.Or, 0, 0, 0, 0},
		{api.Or, top, 0, 0, top},
		{api.Or, 0, top, 0, top},
		{api.Or, top, top, 0, top},
		{api.Or, 0xf0f0f0f0, 0x0f0f0f0f, 0, top},
		{api.Or, 0xc, 0xa, 0, 0xe},
		{api.Shl, 1, 0, 31, 0x80000000},
		{api.Shl, 3, 0, 31, 0x80000000},
		{api.Shl, 2, 0, 31, 0},
		{api.Shl, 0x12345678, 0, 12, 0x45678000},
		{api.Shr, 0x80000000, 0, 31, 1},
		{api.Shr, 0x7fffffff, 0, 31, 0},
		{api.Shr, 0x12345678, 0, 12, 0x12345},
	} {
		i := onlyWhatItHas(api.Inst{Op: x.op, D: 3, S: 4, T: 5}, x.k)
		c := Core{R: [8]uint32{3: 99, 4: x.s, 5: x.t}, Pc: 8}
		wantOne(t, c, i, 2, Core{R: [8]uint32{3: x.want, 4: x.s, 5: x.t}, Pc: 9})
	}
}

func TestOneOfEachShift(t *testing.T) {
	for k := range uint32(32) {
		for _, w := range []uint32{0, 1, top, 0x80000000, 0x12345678, 0xdeadbeef} {
			c := Core{R: [8]uint32{2: w, 5: 77}, Pc: 3}
			up := Core{R: [8]uint32{2: w, 5: uint32(uint64(w) << k % (1 << 32))}, Pc: 4}
			down := Core{R: [8]uint32{2: w, 5: uint32(uint64(w) >> k)}, Pc: 4}
			wantOne(t, c, api.Inst{Op: api.Shl, D: 5, S: 2, K: k}, 0, up)
			wantOne(t, c, api.Inst{Op: api.Shr, D: 5, S: 2, K: k}, 0, down)
		}
	}
}

func TestOneOfEachThread(t *testing.T) {
	for self := range 64 {
		for r := range 8 {
			want := Core{R: mixed, Pc: 1}
			want.R[r] = uint32(self)
			wantOne(t, Core{R: mixed}, api.Inst{Op: api.Self, D: r}, self, want)
		}
	}
}

func TestOneGoesOnOrTo(t *testing.T) {
	c := Core{R: [8]uint32{0: 0, 1: 5, 2: 5, 3: 0x80000005, 4: top, 5: top}, Pc: 40}
	at := func(pc int) Core { return Core{R: c.R, Pc: pc} }
	for _, to := range []int{0, 1, 39, 40, 41, 63} {
		wantOne(t, c, api.Inst{Op: api.Jump, To: to}, 1, at(to))
		for _, x := range [][2]int{{1, 2}, {2, 1}, {4, 5}, {3, 3}, {0, 6}} {
			wantOne(t, c, api.Inst{Op: api.Beq, S: x[0], T: x[1], To: to}, 1, at(to))
			wantOne(t, c, api.Inst{Op: api.Bne, S: x[0], T: x[1], To: to}, 1, at(41))
		}
		for _, x := range [][2]int{{1, 3}, {3, 1}, {0, 4}, {4, 0}, {1, 0}} {
			wantOne(t, c, api.Inst{Op: api.Beq, S: x[0], T: x[1], To: to}, 1, at(41))
			wantOne(t, c, api.Inst{Op: api.Bne, S: x[0], T: x[1], To: to}, 1, at(to))
		}
	}
}

func TestOneOfMarkAndDone(t *testing.T) {
	for _, pc := range []int{0, 1, 63, 64, -1} {
		for k := range uint32(4) {
			wantOne(t, Core{R: mixed, Pc: pc}, api.Inst{Op: api.Mark, K: k + 1}, 5, Core{R: mixed, Pc: pc + 1})
			wantOne(t, Core{R: mixed, Pc: pc}, api.Inst{Op: api.Done, K: k}, 5, Core{R: mixed, Pc: pc})
		}
	}
}

func TestOneOfTheMemoryLeavesAll(t *testing.T) {
	d := dice(2)
	for _, i := range memoryInsts() {
		for _, pc := range []int{0, 7, 63, 64, -1, math.MaxInt, math.MinInt} {
			wantOne(t, Core{R: mixed, Pc: pc}, i, 9, Core{R: mixed, Pc: pc})
		}
	}
	for n := range 1000 {
		c := d.core(64)
		wantOne(t, c, d.inst(memoryOps[n%len(memoryOps)], 64), n%64, c)
	}
}

// One asks for no program: whatever number the place is, the next one is one more, and nothing goes round.
func TestOneAtAnyPlace(t *testing.T) {
	for _, pc := range []int{math.MinInt, -1 << 32, -2, -1, 0, 255, 256, 1<<31 - 1, 1<<32 - 1, math.MaxInt - 1} {
		wantOne(t, Core{Pc: pc}, api.Inst{Op: api.Const, D: 1, K: 2}, 0, Core{R: [8]uint32{1: 2}, Pc: pc + 1})
		wantOne(t, Core{Pc: pc}, api.Inst{Op: api.Bne, To: 5}, 0, Core{Pc: pc + 1})
	}
	wantOne(t, Core{Pc: math.MaxInt}, api.Inst{Op: api.Const, D: 1, K: 2}, 0, Core{R: [8]uint32{1: 2}, Pc: math.MaxInt})
	wantOne(t, Core{Pc: math.MaxInt}, api.Inst{Op: api.Bne, To: 5}, 0, Core{Pc: math.MaxInt})
	wantOne(t, Core{Pc: math.MaxInt}, api.Inst{Op: api.Jump, To: 5}, 0, Core{Pc: 5})
	wantOne(t, Core{}, api.Inst{Op: api.Jump, To: math.MaxInt - 1}, 0, Core{Pc: math.MaxInt - 1})
}

// P8.1: Run and Begin

func TestExamplesOfTheChapter(t *testing.T) {
	code := api.Code{L: []api.Inst{{Op: api.Const, D: 1, K: 5}, {Op: api.Done, K: 1}}}
	wantStop(t, code, run(Core{}, code, 0), stop{Core{R: [8]uint32{1: 5}, Pc: 1}, nil, 1, api.OK})
	code = api.Code{L: []api.Inst{{Op: api.Jump}}}
	wantStop(t, code, run(Core{}, code, 0), stop{Core{}, nil, none, api.ErrTrap})
}

func TestRunMarksAndBranches(t *testing.T) {
	code := assembled(t, "lock:\nmark 1\nbeq r1 r2 alike\nmark 3\nbne r1 r3 end\nalike:\nmark 2\nself r6\nend:\nload r4 0 r5\nunlock:\nmark 4\ndone 2\n")
	for _, x := range []struct {
		r     [8]uint32
		marks []int
		r6    uint32
	}{
		{[8]uint32{1: 7, 2: 7, 3: 9}, []int{1, 2}, 33},
		{[8]uint32{1: 7, 2: 8, 3: 9}, []int{1, 3}, 0},
		{[8]uint32{1: 7, 2: 8, 3: 7}, []int{1, 3, 2}, 33},
	} {
		want := Core{R: x.r, Pc: 6}
		want.R[6] = x.r6
		wantStop(t, x, run(Core{R: x.r}, code, 33), stop{want, x.marks, none, api.OK})
		wantStop(t, x, begin(Core{R: x.r, Pc: 8}, code, 33, false), stop{want, x.marks, none, api.OK})
		wantStop(t, x, run(want, code, 33), stop{want, nil, none, api.OK})
		wantStop(t, x, begin(want, code, 33, true), stop{Core{R: want.R, Pc: 8}, []int{4}, 2, api.OK})
	}
}

func TestRunRoundALoopThatEnds(t *testing.T) {
	code := assembled(t, "lock:\nconst r1 3\nagain:\nmark 2\naddk r1 r1 4294967295\nbne r1 r0 again\nmark 3\nunlock:\ntake r2\n")
	want := stop{Core{Pc: 5}, []int{2, 2, 2, 3}, none, api.OK}
	wantStop(t, code, run(Core{}, code, 0), want)
	wantStop(t, code, begin(Core{Pc: 4}, code, 0, false), want)
	wantStop(t, code, begin(Core{Pc: 4}, code, 0, true), stop{Core{Pc: 5}, nil, none, api.OK})
	wantStop(t, code, run(Core{R: [8]uint32{1: 1}, Pc: 2}, code, 0), stop{Core{Pc: 5}, []int{3}, none, api.OK})
}

// From each place a core runs on from that place, and from no other one.
func TestRunFromEachPlace(t *testing.T) {
	code := api.Code{}
	for n := range 63 {
		code.L = append(code.L, api.Inst{Op: api.Mark, K: uint32(n%4 + 1)})
	}
	code.L = append(code.L, api.Inst{Op: api.Done, K: 3})
	for pc := range 64 {
		var marks []int
		for n := pc; n < 63; n++ {
			marks = append(marks, n%4+1)
		}
		want := stop{Core{R: mixed, Pc: 63}, marks, 3, api.OK}
		wantStop(t, pc, run(Core{R: mixed, Pc: pc}, code, 0), want)
		code.Lock, code.Unlock = pc, 63-pc
		wantStop(t, pc, begin(Core{R: mixed, Pc: 5}, code, 0, false), want)
		code.Lock, code.Unlock = 63-pc, pc
		wantStop(t, pc, begin(Core{R: mixed, Pc: 5}, code, 0, true), want)
	}
}

// Begin asks for nothing of a core's place: it may be any number.
func TestBeginWhateverThePlaceWas(t *testing.T) {
	code := assembled(t, "unlock:\nconst r1 8\nfree r1\nlock:\nself r2\ndone 1\n")
	for _, pc := range []int{0, 1, 3, 4, -1, 99, math.MaxInt, math.MinInt} {
		wantStop(t, pc, begin(Core{R: mixed, Pc: pc}, code, 63, false), stop{Core{R: [8]uint32{0, 1, 63, mixed[3], mixed[4], mixed[5], mixed[6], mixed[7]}, Pc: 3}, nil, 1, api.OK})
		wantStop(t, pc, begin(Core{R: mixed, Pc: pc}, code, 63, true), stop{Core{R: [8]uint32{0, 8, top, mixed[3], mixed[4], mixed[5], mixed[6], mixed[7]}, Pc: 1}, nil, none, api.OK})
	}
}

func TestRunAtTheMemoryAtOnce(t *testing.T) {
	for _, i := range memoryInsts() {
		only := api.Code{L: []api.Inst{i}}
		wantStop(t, i, run(Core{R: mixed}, only, 9), stop{Core{R: mixed}, nil, none, api.OK})
		wantStop(t, i, begin(Core{R: mixed, Pc: 3}, only, 9, false), stop{Core{R: mixed}, nil, none, api.OK})
		last := api.Code{L: []api.Inst{{Op: api.Done, K: 1}, {Op: api.Mark, K: 1}, i}, Unlock: 1}
		wantStop(t, i, run(Core{R: mixed, Pc: 2}, last, 9), stop{Core{R: mixed, Pc: 2}, nil, none, api.OK})
		wantStop(t, i, begin(Core{R: mixed}, last, 9, true), stop{Core{R: mixed, Pc: 2}, []int{1}, none, api.OK})
	}
}

func TestRunToEachDone(t *testing.T) {
	for k := range uint32(4) {
		code := api.Code{L: []api.Inst{{Op: api.Mark, K: k + 1}, {Op: api.Done, K: k}, {Op: api.Mark, K: 1}, {Op: api.Done, K: 3 - k}}}
		want := stop{Core{R: mixed, Pc: 1}, []int{int(k) + 1}, int(k), api.OK}
		wantStop(t, k, run(Core{R: mixed}, code, 9), want)
		want.marks = nil
		wantStop(t, k, run(Core{R: mixed, Pc: 1}, code, 9), want)
		wantStop(t, k, run(want.c, code, 9), want)
	}
}

func TestRunToGoals(t *testing.T) {
	code := assembled(t, "first:\ndone 0\nlock:\njump last\nmark 4\nunlock:\njump first\nmark 4\nlast:\ndone 3\n")
	wantStop(t, code, begin(Core{}, code, 0, false), stop{Core{Pc: 5}, nil, 3, api.OK})
	wantStop(t, code, begin(Core{}, code, 0, true), stop{Core{}, nil, 0, api.OK})
}

// From 250 to 260 local instructions, and what then stands there.
func TestRunAround256(t *testing.T) {
	for n := 250; n <= 256; n++ {
		for _, i := range memoryInsts() {
			c, code := counted(n, i)
			wantStop(t, n, run(c, code, 0), stop{Core{Pc: n - 198}, countedMarks(n), none, api.OK})
		}
		c, code := counted(n)
		wantStop(t, n, run(c, code, 0), stop{Core{Pc: n - 198}, countedMarks(n), none, api.ErrTrap})
		for k := range uint32(4) {
			c, code := counted(n-1, api.Inst{Op: api.Done, K: k})
			wantStop(t, n, run(c, code, 0), stop{Core{Pc: n - 199}, countedMarks(n - 1), int(k), api.OK})
		}
	}
	late := stop{Core{Pc: 58}, countedMarks(256), none, api.ErrTrap}
	for n := 257; n <= 260; n++ {
		for _, i := range append(memoryInsts(), api.Inst{Op: api.Done, K: 1}) {
			c, code := counted(n, i)
			wantStop(t, n, run(c, code, 0), late)
		}
	}
	for _, op := range localOps {
		d := dice(op)
		c, code := counted(256)
		code.L = append(code.L, d.inst(op, len(code.L)+1))
		wantStop(t, op, run(c, code, 0), late)
	}
}

// The count is of one run: the next one may do as many again.
func TestEachRunCountsAnew(t *testing.T) {
	code := assembled(t, "lock:\nunlock:\nmark 1\nagain:\naddk r1 r1 4294967295\nbne r1 r0 again\nmark 2\nload r2 0 r0\n")
	for range 3 {
		wantStop(t, code, run(Core{R: [8]uint32{1: 127}}, code, 0), stop{Core{Pc: 4}, []int{1, 2}, none, api.OK})
	}
	trap := run(Core{R: [8]uint32{1: 128}}, code, 0)
	wantStop(t, code, trap, stop{Core{Pc: 2}, []int{1}, none, api.ErrTrap})
	wantStop(t, code, run(trap.c, code, 0), stop{Core{Pc: 4}, []int{2}, none, api.OK})
}

func TestMostMarks(t *testing.T) {
	code := api.Code{}
	for n := range 63 {
		code.L = append(code.L, api.Inst{Op: api.Mark, K: uint32(n%4 + 1)})
	}
	code.L = append(code.L, api.Inst{Op: api.Jump})
	var marks []int
	for range 4 {
		for n := range 63 {
			marks = append(marks, n%4+1)
		}
	}
	wantStop(t, "252 marks", run(Core{R: mixed}, code, 0), stop{Core{R: mixed}, marks, none, api.ErrTrap})
}

// P8.1: what isn't right

func TestPlacesThatAreNone(t *testing.T) {
	for _, l := range [][]api.Inst{
		{{Op: api.Done, K: 1}},
		{{Op: api.Take}},
		{{Op: api.Mark, K: 1}, {Op: api.Jump}, {Op: api.Load}},
	} {
		code := api.Code{L: l}
		n := len(l)
		for _, pc := range []int{-1, -2, -n, -256, math.MinInt, 1 - 1<<32, -1 << 32, n, n + 1, 64, 65, 256, 1 << 31, 1 << 32, 1<<32 + 1, 1 << 40, math.MaxInt - 1, math.MaxInt} {
			wantStop(t, pc, run(Core{R: mixed, Pc: pc}, code, 3), stop{Core{R: mixed, Pc: pc}, nil, none, api.ErrTrap})
		}
	}
}

func TestBehindTheLast(t *testing.T) {
	for n := 1; n <= 64; n++ {
		code := api.Code{}
		var marks []int
		for k := range n {
			code.L = append(code.L, api.Inst{Op: api.Mark, K: uint32(k%4 + 1)})
			marks = append(marks, k%4+1)
		}
		wantStop(t, n, run(Core{R: mixed}, code, 3), stop{Core{R: mixed, Pc: n}, marks, none, api.ErrTrap})
	}
	for _, i := range []api.Inst{{Op: api.Const}, {Op: api.Move}, {Op: api.AddK}, {Op: api.AndK}, {Op: api.Shl}, {Op: api.Shr}, {Op: api.Or}, {Op: api.Bne}, {Op: api.Self}} {
		wantStop(t, i, run(Core{}, api.Code{L: []api.Inst{i}}, 0), stop{Core{Pc: 1}, nil, none, api.ErrTrap})
	}
	branch := api.Code{L: []api.Inst{{Op: api.Beq, S: 1, T: 2}}}
	wantStop(t, branch, run(Core{R: mixed}, branch, 0), stop{Core{R: mixed, Pc: 1}, nil, none, api.ErrTrap})
}

func TestRoundAndRound(t *testing.T) {
	for _, i := range []api.Inst{{Op: api.Jump, To: 1}, {Op: api.Beq, S: 2, T: 2, To: 1}, {Op: api.Bne, S: 1, T: 2, To: 1}} {
		code := api.Code{L: []api.Inst{{Op: api.Mark, K: 3}, i, {Op: api.Done}}}
		wantStop(t, i, run(Core{R: mixed}, code, 0), stop{Core{R: mixed, Pc: 1}, []int{3}, none, api.ErrTrap})
	}
	toAndFro := api.Code{L: []api.Inst{{Op: api.Jump, To: 1}, {Op: api.Jump, To: 0}}, Unlock: 1}
	wantStop(t, toAndFro, begin(Core{}, toAndFro, 0, false), stop{Core{}, nil, none, api.ErrTrap})
	wantStop(t, toAndFro, begin(Core{}, toAndFro, 0, true), stop{Core{Pc: 1}, nil, none, api.ErrTrap})
	three := api.Code{L: []api.Inst{{Op: api.AddK, D: 1, S: 1, K: 1}, {Op: api.Mark, K: 2}, {Op: api.Jump, To: 0}}}
	wantStop(t, three, run(Core{}, three, 0), stop{Core{R: [8]uint32{1: 86}, Pc: 1}, slices.Repeat([]int{2}, 85), none, api.ErrTrap})
}

// Nothing is promised of these but an end.
func TestWrongOnesEnd(t *testing.T) {
	far := []int{-1, 8, 9, 64, 1 << 31, 1 << 32, math.MaxInt, math.MinInt}
	for op := -2; op <= 30; op++ {
		for _, n := range far {
			for _, i := range []api.Inst{{Op: op, D: n}, {Op: op, S: n}, {Op: op, T: n}, {Op: op, U: n, A: n}, {Op: op, To: n}, {Op: op, D: n, S: n, T: n, U: n, A: n, To: n, K: top}} {
				One(Core{R: mixed, Pc: n}, i, n)
				for _, code := range []api.Code{{L: []api.Inst{i}}, {L: []api.Inst{i, i, i}, Lock: n, Unlock: n}, {L: slices.Repeat([]api.Inst{i}, 300)}, {Lock: n}, {}} {
					Run(Core{R: mixed}, code, n)
					Begin(Core{R: mixed}, code, n, false)
					Begin(Core{R: mixed}, code, n, true)
				}
			}
		}
	}
}

// P8.1: nothing is shared

func TestNothingIsSharedOrWritten(t *testing.T) {
	code := assembled(t, "lock:\nmark 1\nmark 2\nmark 3\nconst r1 9\nbeq r1 r1 unlock\nunlock:\nmark 4\nload r1 0 r0\n")
	kept := asm.Copy(code)
	c := Core{R: mixed, Pc: 2}
	want := stop{Core{R: mixed, Pc: 6}, []int{1, 2, 3, 4}, none, api.OK}
	want.c.R[1] = 9
	first := begin(c, code, 0, false)
	second := begin(c, code, 0, false)
	One(c, code.L[3], 0)
	wantStop(t, code, first, want)
	if c != (Core{R: mixed, Pc: 2}) || !asm.Same(code, kept) {
		t.Errorf("behind Begin and One: %v, %+v", c, code)
	}
	for n := range first.marks {
		first.marks[n] = 77
	}
	_ = append(first.marks[:0], 66, 66, 66, 66, 66)
	wantStop(t, "the second one", second, want)
	wantStop(t, "a third one", begin(c, code, 0, false), want)
	if !asm.Same(code, kept) {
		t.Errorf("marks are the program's: %+v", code)
	}
	clear(code.L)
	wantStop(t, "behind another program", second, want)
}

// P8.1 and P8.2: all programs of some instructions, and many mixed ones

func TestAllSmallPrograms(t *testing.T) {
	some := []api.Inst{
		{Op: api.AddK, D: 1, S: 1, K: 1}, {Op: api.Mark, K: 1}, {Op: api.Done, K: 2}, {Op: api.Load, D: 1}, {Op: api.Self, D: 2},
		{Op: api.Jump, To: 0}, {Op: api.Jump, To: 1}, {Op: api.Jump, To: 2}, {Op: api.Beq, S: 1, T: 2, To: 0}, {Op: api.Bne, S: 1, T: 2, To: 2},
	}
	for n := range len(some) * len(some) * len(some) {
		l := []api.Inst{some[n%10], some[n/10%10], some[n/100]}
		code := api.Code{L: l, Lock: n % 3, Unlock: n / 3 % 3}
		if !asm.Right(code) {
			t.Fatalf("%+v isn't right", code)
		}
		for pc := -1; pc <= 3; pc++ {
			for _, self := range []int{0, 5, 63} {
				c := Core{R: [8]uint32{1: uint32(self) - 3, 2: 5}, Pc: pc}
				wantStop(t, code, run(c, code, self), modelRun(c, code, self))
			}
		}
	}
}

func TestMixedPrograms(t *testing.T) {
	d := dice(8)
	ends := map[string]int{}
	for n := range 20000 {
		places := 1 + d.below(64)
		ops := slices.Concat(localOps, memoryOps)
		if n%2 == 0 { // Seldom anything that ends it.
			ops = slices.Concat([]int{1, 2, 3, 3, 4, 5, 6, 7, 8, 8, 9, 9, 10, 11, 12, 12}, []int{1, 2, 3, 3, 4, 5, 6, 7, 8, 8, 9, 9, 10, 11, 12, 12}, []int{13, 16, 21})
		}
		code := d.code(places, ops)
		if !asm.Right(code) {
			t.Fatalf("%+v isn't right", code)
		}
		c, self := d.core(places), d.below(64)
		got := run(c, code, self)
		wantStop(t, code, got, modelRun(c, code, self))
		fromLock, fromUnlock := c, c
		fromLock.Pc, fromUnlock.Pc = code.Lock, code.Unlock
		wantStop(t, code, begin(c, code, self, false), modelRun(fromLock, code, self))
		wantStop(t, code, begin(c, code, self, true), modelRun(fromUnlock, code, self))
		switch {
		case got.e == api.ErrTrap && got.c.Pc == places:
			ends["behind"]++
		case got.e == api.ErrTrap:
			ends["round"]++
		case got.done == none:
			ends["memory"]++
		default:
			ends["done"]++
		}
	}
	for _, end := range []string{"behind", "round", "memory", "done"} {
		if ends[end] < 100 {
			t.Errorf("too few programs end so: %v", ends)
		}
	}
}
