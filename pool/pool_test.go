package pool

import (
	"math"
	"slices"
	"testing"

	"ropeline/api"
)

// The tests build handles by these alone, not by layer 1: an index below, a generation above it.
const (
	indices     = 4096
	generations = 1 << 18
)

// farNumbers are no numbers of threads, nor of nodes, however many there are; cut down to 32 bits, to 8 or to 6, many of them would be fine.
var farNumbers = []int{-1, -2, -64, 65, 128, 256, 257, 1 << 31, 1 << 32, 1<<32 + 1, -1 << 32, 1 - 1<<32, math.MaxInt, math.MinInt}

// model is a pool told plainly: each node's generation, whether it is out, and each thread's free nodes in order.
type model struct {
	threads, each int
	gen           []int
	out           []bool
	free          [][]int
}

func newModel(threads, each int) *model {
	m := &model{threads: threads, each: each, gen: make([]int, threads*each+1), out: make([]bool, threads*each+1), free: make([][]int, threads)}
	for node := 1; node <= threads*each; node++ {
		m.free[m.owner(node)] = append(m.free[m.owner(node)], node)
	}
	return m
}

// owner is found by going through the threads' nodes one by one.
func (m *model) owner(node int) int {
	for t := range m.threads {
		if t*m.each+1 <= node && node <= t*m.each+m.each {
			return t
		}
	}
	return -1
}

func (m *model) handle(node int) uint32 { return uint32(m.gen[node]*indices + node) }

// node is the one that is out and has the handle; 0: there is none.
func (m *model) node(h uint32) int {
	for node, out := range m.out {
		if out && m.handle(node) == h {
			return node
		}
	}
	return 0
}

func (m *model) take(t int) (uint32, api.Errno) {
	if t < 0 || t >= m.threads {
		return 0, api.ErrThread
	}
	if len(m.free[t]) == 0 {
		return 0, api.OK
	}
	node := m.free[t][0]
	m.free[t] = m.free[t][1:]
	m.out[node] = true
	return m.handle(node), api.OK
}

func (m *model) bring(h uint32) api.Errno {
	node := m.node(h)
	if h == 0 {
		return api.OK
	}
	if node == 0 {
		return api.ErrNone
	}
	m.out[node] = false
	m.gen[node] = (m.gen[node] + 1) % generations
	m.free[m.owner(node)] = append(m.free[m.owner(node)], node)
	return api.OK
}

func mustNew(t *testing.T, threads, each int) *Pool {
	t.Helper()
	p, e := New(threads, each)
	if p == nil || e != api.OK {
		t.Fatalf("New(%d, %d) = %v, error %d", threads, each, p, e)
	}
	return p
}

func wantTake(t *testing.T, p *Pool, k int, want uint32, wantErr api.Errno) {
	t.Helper()
	if h, e := p.Take(k); h != want || e != wantErr {
		t.Fatalf("Take(%d) = %d, error %d, want %d, error %d", k, h, e, want, wantErr)
	}
}

func wantFree(t *testing.T, p *Pool, h uint32, want api.Errno) {
	t.Helper()
	if e := p.Free(h); e != want {
		t.Fatalf("Free(%d) = error %d, want error %d", h, e, want)
	}
}

// It is asked too often to look up its caller each time; so are those below it.
func wantIs(t *testing.T, p *Pool, h uint32, want bool) {
	if p.Is(h) != want {
		t.Fatalf("Is(%d) = %v, want %v", h, !want, want)
	}
}

func wantOwner(t *testing.T, p *Pool, h uint32, want int, wantOk bool) {
	if k, ok := p.Owner(h); k != want || ok != wantOk {
		t.Fatalf("Owner(%d) = %d, %v, want %d, %v", h, k, ok, want, wantOk)
	}
}

// wantAll asks for all that a pool tells: how many are out, and of every node its handle now, the one that came back, those that never were, and words that are none.
func wantAll(t *testing.T, p *Pool, m *model) {
	t.Helper()
	total := 0
	for k := range m.threads {
		out := m.each - len(m.free[k])
		total += out
		if p.Out(k) != out {
			t.Fatalf("Out(%d) = %d, want %d", k, p.Out(k), out)
		}
	}
	if p.Total() != total {
		t.Fatalf("Total() = %d, want %d", p.Total(), total)
	}
	for _, k := range []int{-1, m.threads} {
		if p.Out(k) != 0 {
			t.Fatalf("Out(%d) = %d of %d threads", k, p.Out(k), m.threads)
		}
	}
	for node := 1; node <= m.threads*m.each; node++ {
		wantNode(t, p, m, node)
	}
	for _, index := range []int{0, m.threads*m.each + 1, m.threads*m.each + m.each, indices - 1} {
		if m.owner(index) < 0 {
			wantNoNode(t, p, index)
		}
	}
}

func wantNode(t *testing.T, p *Pool, m *model, node int) {
	owner, gen := m.owner(node), m.gen[node]
	for _, step := range []int{0, 1, 2, generations / 2, generations - 2, generations - 1} {
		h := uint32((gen+step)%generations*indices + node)
		wantIs(t, p, h, m.out[node] && step == 0)
		wantOwner(t, p, h, owner, true)
	}
	for high := uint32(1); high < 4; high++ {
		h := m.handle(node) | high<<30
		wantIs(t, p, h, false)
		wantOwner(t, p, h, owner, true)
	}
}

func wantNoNode(t *testing.T, p *Pool, index int) {
	for _, gen := range []int{0, 1, 9, generations - 1, generations, 4*generations - 1} {
		h := uint32(gen*indices + index)
		wantIs(t, p, h, false)
		wantOwner(t, p, h, 0, false)
	}
}

// takeBoth takes a node of a thread, there may be such a thread or not, and of the model too; all is asked for behind it.
func takeBoth(t *testing.T, p *Pool, m *model, k int) uint32 {
	t.Helper()
	h, e := m.take(k)
	wantTake(t, p, k, h, e)
	wantAll(t, p, m)
	return h
}

// freeBoth brings one back likewise, whatever the handle is.
func freeBoth(t *testing.T, p *Pool, m *model, h uint32) {
	t.Helper()
	wantFree(t, p, h, m.bring(h))
	wantAll(t, p, m)
}

// draws gives numbers from a rule of its own, so that a run is the same each time.
type draws struct{ x uint64 }

func (d *draws) next(n int) int {
	d.x = d.x*6364136223846793005 + 1442695040888963407
	return int(d.x >> 33 % uint64(n))
}

// P5.1

func TestNoNodeIsOutAtFirst(t *testing.T) {
	for _, threads := range []int{1, 2, 3, 31, 63, 64} {
		for each := range 9 {
			wantAll(t, mustNew(t, threads, each), newModel(threads, each))
		}
	}
}

func TestNewTakesAllThatItMay(t *testing.T) {
	for threads := 1; threads <= 64; threads++ {
		for each := range 9 {
			p := mustNew(t, threads, each)
			last := threads * each
			wantOwner(t, p, uint32(last+1), 0, false)
			if each > 0 {
				wantOwner(t, p, 1, 0, true)
				wantOwner(t, p, uint32(last), threads-1, true)
			}
		}
	}
}

func TestNewRefusesOtherNumbersOfThreads(t *testing.T) {
	// Cut down to 32 bits some of these would be fine.
	more := []int{0, 66, 100, 1<<32 + 64, 64 - 1<<32}
	for _, threads := range append(more, farNumbers...) {
		for _, each := range []int{0, 1, 8, 9, -1} {
			if p, e := New(threads, each); p != nil || e != api.ErrArg {
				t.Errorf("New(%d, %d) = %v, error %d, want nil, error %d", threads, each, p, e, api.ErrArg)
			}
		}
	}
}

func TestNewRefusesOtherNumbersOfNodes(t *testing.T) {
	more := []int{9, 10, 16, 64, 1<<32 + 8, 8 - 1<<32}
	for _, each := range append(more, farNumbers...) {
		for _, threads := range []int{1, 2, 64, 0, 65} {
			if p, e := New(threads, each); p != nil || e != api.ErrArg {
				t.Errorf("New(%d, %d) = %v, error %d, want nil, error %d", threads, each, p, e, api.ErrArg)
			}
		}
	}
}

func TestExampleOfTheChapter(t *testing.T) {
	p := mustNew(t, 2, 2)
	wantTake(t, p, 1, 3, api.OK)
	wantTake(t, p, 1, 4, api.OK)
	wantTake(t, p, 1, 0, api.OK)
	wantFree(t, p, 3, api.OK)
	wantTake(t, p, 1, 4099, api.OK)
	if p.Out(0) != 0 || p.Out(1) != 2 || p.Total() != 2 {
		t.Errorf("%d, %d and %d are out, want 0, 2 and 2", p.Out(0), p.Out(1), p.Total())
	}
	wantIs(t, p, 3, false)
	wantIs(t, p, 4, true)
	wantIs(t, p, 4099, true)
	wantOwner(t, p, 3, 1, true)
}

func TestNodesGoOutInTheOrderOfTheirNumbers(t *testing.T) {
	for _, threads := range []int{1, 2, 5, 64} {
		for each := range 9 {
			p := mustNew(t, threads, each)
			for k := range threads {
				for i := range each {
					wantTake(t, p, k, uint32(k*each+1+i), api.OK)
				}
				wantTake(t, p, k, 0, api.OK)
			}
			if p.Total() != threads*each {
				t.Errorf("Total() = %d, want %d", p.Total(), threads*each)
			}
		}
	}
}

func TestTakeWhereNoneIsFree(t *testing.T) {
	for _, each := range []int{0, 1, 3, 8} {
		p, m := mustNew(t, 3, each), newModel(3, each)
		for range each {
			takeBoth(t, p, m, 1)
		}
		for range 20 {
			wantTake(t, p, 1, 0, api.OK)
			wantAll(t, p, m)
		}
		// What was asked for in vain isn't owed, and others' nodes aren't lent.
		takeBoth(t, p, m, 0)
		takeBoth(t, p, m, 2)
		freeBoth(t, p, m, uint32(each+1))
		takeBoth(t, p, m, 1)
		takeBoth(t, p, m, 1)
	}
}

func TestOneThatComesBackIsFreeBehindAllOthers(t *testing.T) {
	p, m := mustNew(t, 2, 3), newModel(2, 3)
	for _, want := range []uint32{4, 5} {
		wantTake(t, p, 1, want, api.OK)
		m.take(1)
	}
	freeBoth(t, p, m, 5)
	freeBoth(t, p, m, 4)
	for _, want := range []uint32{6, 4096 + 5, 4096 + 4, 0} {
		if h := takeBoth(t, p, m, 1); h != want {
			t.Fatalf("Take(1) = %d, want %d", h, want)
		}
	}
}

// All orders in which a thread's four nodes can come back are the orders in which they go out again.
func TestWhoCameBackFirstGoesOutFirst(t *testing.T) {
	for run := range 4 * 4 * 4 * 4 {
		order := []int{run % 4, run / 4 % 4, run / 16 % 4, run / 64}
		if sorted := slices.Sorted(slices.Values(order)); !slices.Equal(sorted, []int{0, 1, 2, 3}) {
			continue
		}
		p, m := mustNew(t, 3, 4), newModel(3, 4)
		for range 4 {
			takeBoth(t, p, m, 1)
		}
		for _, i := range order {
			freeBoth(t, p, m, uint32(5+i))
		}
		for _, i := range order {
			if h := takeBoth(t, p, m, 1); h != uint32(4096+5+i) {
				t.Fatalf("came back in the order %v: Take(1) = %d", order, h)
			}
		}
	}
}

func TestFirstAndLastNodeOfFirstAndLastThread(t *testing.T) {
	for _, threads := range []int{1, 2, 64} {
		for _, each := range []int{1, 2, 8} {
			p, m := mustNew(t, threads, each), newModel(threads, each)
			for _, k := range []int{0, threads - 1} {
				for range each {
					takeBoth(t, p, m, k)
				}
			}
			for _, node := range []int{1, each, (threads-1)*each + 1, threads * each} {
				freeBoth(t, p, m, uint32(node))
			}
			for _, k := range []int{0, threads - 1, 0, threads - 1, 0} {
				takeBoth(t, p, m, k)
			}
		}
	}
}

func TestFreeOfTheHandle0IsNothing(t *testing.T) {
	for _, each := range []int{0, 1, 8} {
		p, m := mustNew(t, 2, each), newModel(2, each)
		for range 2*each + 3 {
			wantFree(t, p, 0, api.OK)
			wantAll(t, p, m)
			takeBoth(t, p, m, 0)
		}
		wantFree(t, p, 0, api.OK)
		wantAll(t, p, m)
	}
}

func TestThreadsThatThereAreNotAreRefused(t *testing.T) {
	for _, threads := range []int{1, 2, 5, 63, 64} {
		for _, each := range []int{0, 2, 8} {
			p, m := mustNew(t, threads, each), newModel(threads, each)
			takeBoth(t, p, m, threads-1)
			for _, k := range append([]int{threads, threads + 1, 2 * threads, -threads, -threads - 1}, farNumbers...) {
				wantTake(t, p, k, 0, api.ErrThread)
				if p.Out(k) != 0 {
					t.Errorf("Out(%d) = %d of %d threads", k, p.Out(k), threads)
				}
			}
			wantAll(t, p, m)
			takeBoth(t, p, m, threads-1)
		}
	}
}

func TestFreeRefusesWhatNoNodeThatIsOutHas(t *testing.T) {
	p, m := mustNew(t, 3, 2), newModel(3, 2)
	takeBoth(t, p, m, 0)
	takeBoth(t, p, m, 1)
	freeBoth(t, p, m, 1)
	for _, h := range []uint32{
		1,          // It came back.
		2, 4, 5, 6, // They are free.
		4096 + 1,                        // It is free again.
		4096 + 3,                        // Another generation of one that is out,
		(1<<18-1)<<12 | 3,               // the one ahead of it,
		1<<30 | 3, 1<<31 | 3, 3<<30 | 3, // and words that are no handles.
		7, 8, 512, 513, 4095, 4096, 8192, 4096 + 7, // No node's.
		1 << 30, 1 << 31, math.MaxUint32, math.MaxInt32,
	} {
		wantFree(t, p, h, api.ErrNone)
		wantIs(t, p, h, false)
		wantAll(t, p, m)
	}
	wantFree(t, p, 3, api.OK)
	m.bring(3)
	wantAll(t, p, m)
}

// Nothing is brought back twice, and what is behind it goes out as it would have.
func TestARefusedFreeChangesNothing(t *testing.T) {
	p, m := mustNew(t, 1, 3), newModel(1, 3)
	for range 3 {
		takeBoth(t, p, m, 0)
	}
	freeBoth(t, p, m, 2)
	for range 9 {
		wantFree(t, p, 2, api.ErrNone)
		wantFree(t, p, 4096+2, api.ErrNone)
		wantFree(t, p, 4096+1, api.ErrNone)
		wantAll(t, p, m)
	}
	takeBoth(t, p, m, 0)
	takeBoth(t, p, m, 0)
	freeBoth(t, p, m, 4096+2)
	freeBoth(t, p, m, 1)
	for range 3 {
		takeBoth(t, p, m, 0)
	}
}

func TestOwnerOfEveryIndex(t *testing.T) {
	for _, threads := range []int{1, 3, 64} {
		for _, each := range []int{0, 1, 3, 8} {
			p, m := mustNew(t, threads, each), newModel(threads, each)
			for index := range indices {
				for _, gen := range []int{0, 1, generations - 1, 3*generations + 5} {
					want := m.owner(index)
					wantOwner(t, p, uint32(gen*indices+index), max(want, 0), want >= 0)
				}
			}
		}
	}
}

func TestIsOfEveryIndex(t *testing.T) {
	p := mustNew(t, 64, 8)
	for k := range 64 {
		for range 8 {
			p.Take(k)
		}
	}
	for index := range indices {
		wantIs(t, p, uint32(index), index >= 1 && index <= 512)
		wantIs(t, p, uint32(indices+index), false)
	}
}

func TestNoNodesEach(t *testing.T) {
	p, m := mustNew(t, 64, 0), newModel(64, 0)
	for k := -1; k <= 64; k++ {
		takeBoth(t, p, m, k)
	}
	for _, h := range []uint32{0, 1, 2, 64, 4095, 4096, 4097, math.MaxUint32} {
		freeBoth(t, p, m, h)
		wantOwner(t, p, h, 0, false)
	}
}

// wrongOrRight is a handle for Free: one that is out, one of those that were handed out ever, or any other.
func wrongOrRight(d *draws, m *model, handed []uint32) uint32 {
	switch d.next(8) {
	case 0:
		return uint32(d.next(m.threads*m.each+3) + d.next(4)*indices)
	case 1:
		return uint32(d.next(1<<20))<<12 | uint32(d.next(m.threads*m.each+2))
	case 2:
		return 0
	case 3:
		if len(handed) > 0 {
			return handed[d.next(len(handed))]
		}
	}
	out := []uint32{0}
	for node, is := range m.out {
		if is {
			out = append(out, m.handle(node))
		}
	}
	return out[d.next(len(out))]
}

// A run is a number, and its digits are the calls: Take of each thread and of those beside them, Free of each node's handle in its first two generations, of 0, and of no node's.
func TestAllRunsOfFourCalls(t *testing.T) {
	for _, size := range [][2]int{{1, 0}, {1, 1}, {1, 2}, {2, 1}, {2, 2}} {
		threads, each := size[0], size[1]
		var frees []uint32
		for node := range threads*each + 2 {
			frees = append(frees, uint32(node), uint32(indices+node))
		}
		calls := threads + 2 + len(frees)
		for run := range calls * calls * calls * calls {
			p, m := mustNew(t, threads, each), newModel(threads, each)
			for range 4 {
				call := run % calls
				run /= calls
				if call < threads+2 {
					h, e := m.take(call - 1)
					wantTake(t, p, call-1, h, e)
				} else {
					h := frees[call-threads-2]
					wantFree(t, p, h, m.bring(h))
				}
			}
			// Runs that begin with a call of no thread stand for the shorter ones, so that all is asked for behind each call.
			wantAll(t, p, m)
		}
	}
}

func TestCallsAreWhatIsSaidBehindAnyOthers(t *testing.T) {
	for _, size := range [][2]int{{1, 0}, {1, 1}, {1, 8}, {2, 2}, {3, 3}, {5, 1}, {7, 4}, {64, 1}, {64, 8}} {
		threads, each := size[0], size[1]
		d := &draws{x: uint64(threads*10 + each)}
		p, m := mustNew(t, threads, each), newModel(threads, each)
		var handed []uint32
		for i := range 2000 {
			// For long stretches rather taken, then rather brought back, so that nearly all are out, and nearly none.
			if d.next(4) < 3-i/400%2*2 {
				k := d.next(threads+2) - 1
				if d.next(20) == 0 {
					k = farNumbers[d.next(len(farNumbers))]
				}
				if h := takeBoth(t, p, m, k); h != 0 {
					handed = append(handed, h)
				}
			} else {
				freeBoth(t, p, m, wrongOrRight(d, m, handed))
			}
		}
	}
}

func TestAskingChangesNothing(t *testing.T) {
	p, m := mustNew(t, 3, 2), newModel(3, 2)
	takeBoth(t, p, m, 1)
	takeBoth(t, p, m, 2)
	for range 5 {
		wantAll(t, p, m)
	}
	wantTake(t, p, 1, 4, api.OK)
	wantTake(t, p, 2, 6, api.OK)
	wantTake(t, p, 0, 1, api.OK)
}

func TestPoolsMadeTwiceShareNothing(t *testing.T) {
	p, q := mustNew(t, 2, 2), mustNew(t, 2, 2)
	forP, forQ := newModel(2, 2), newModel(2, 2)
	takeBoth(t, p, forP, 0)
	wantAll(t, q, forQ)
	freeBoth(t, q, forQ, 1)
	takeBoth(t, q, forQ, 0)
	takeBoth(t, q, forQ, 1)
	wantAll(t, p, forP)
	freeBoth(t, p, forP, 1)
	wantAll(t, q, forQ)
	freeBoth(t, q, forQ, 3)
	wantAll(t, p, forP)
	r := mustNew(t, 2, 2)
	wantAll(t, r, newModel(2, 2))
	wantAll(t, q, forQ)
}

// P5.2

// refuseAll holds every handle of a node against what is out; only the one handed in may be, and 0 is none.
func refuseAll(t *testing.T, p *Pool, node int, but uint32) {
	t.Helper()
	for gen := range generations {
		h := uint32(gen*indices + node)
		if h == but {
			continue
		}
		if p.Is(h) {
			t.Fatalf("Is(%d) is true, while %d is out", h, but)
		}
		wantFree(t, p, h, api.ErrNone)
	}
}

func TestAHandleThatCameBackIsRefusedThroughAllGenerations(t *testing.T) {
	for _, size := range [][3]int{{1, 1, 0}, {64, 1, 63}} {
		k := size[2]
		p := mustNew(t, size[0], size[1])
		first := uint32(k + 1)
		wantTake(t, p, k, first, api.OK)
		wantFree(t, p, first, api.OK)
		for gen := 1; gen < generations; gen++ {
			wantFree(t, p, first, api.ErrNone)
			h := uint32(gen*indices) + first
			wantTake(t, p, k, h, api.OK)
			wantIs(t, p, first, false)
			wantIs(t, p, h-indices, false)
			wantFree(t, p, first, api.ErrNone)
			wantIs(t, p, h, true)
			wantFree(t, p, h, api.OK)
			wantIs(t, p, h, false)
			wantFree(t, p, h, api.ErrNone)
		}
		wantFree(t, p, first, api.ErrNone)
		// Behind the last generation comes the first one again.
		wantTake(t, p, k, first, api.OK)
		wantIs(t, p, first, true)
		refuseAll(t, p, k+1, first)
		wantFree(t, p, first, api.OK)
		wantTake(t, p, k, first+indices, api.OK)
		refuseAll(t, p, k+1, first+indices)
	}
}

// The handle that is refused need not be of the first generation: the last one is followed by the first.
func TestHandlesOfTheLastGenerationsAreRefusedToo(t *testing.T) {
	p := mustNew(t, 1, 2)
	for range generations - 2 {
		for range 2 {
			h, _ := p.Take(0)
			wantFree(t, p, h, api.OK)
		}
	}
	m := newModel(1, 2)
	m.gen[1], m.gen[2] = generations-2, generations-2
	var back []uint32
	for range 8 {
		h := takeBoth(t, p, m, 0)
		for _, old := range back {
			freeBoth(t, p, m, old)
		}
		freeBoth(t, p, m, h)
		back = append(back, h)
		for _, old := range back {
			freeBoth(t, p, m, old)
		}
	}
	want := []uint32{0x3fffe001, 0x3fffe002, 0x3ffff001, 0x3ffff002, 1, 2, 4097, 4098}
	if !slices.Equal(back, want) {
		t.Errorf("went out: %x, want %x", back, want)
	}
}

// Generations are counted for each node alone: others of its thread, and other threads', may go round meanwhile.
func TestGenerationsOfOtherNodesAreTheirOwn(t *testing.T) {
	p, m := mustNew(t, 2, 2), newModel(2, 2)
	old := takeBoth(t, p, m, 0)
	freeBoth(t, p, m, old)
	kept := takeBoth(t, p, m, 0)
	for range 50 {
		freeBoth(t, p, m, takeBoth(t, p, m, 1))
		freeBoth(t, p, m, takeBoth(t, p, m, 0))
		freeBoth(t, p, m, old)
	}
	if m.gen[1] != 51 || m.gen[2] != 0 || m.gen[3] != 25 || m.gen[4] != 25 {
		t.Fatalf("generations %v", m.gen)
	}
	freeBoth(t, p, m, kept)
	freeBoth(t, p, m, kept)
	freeBoth(t, p, m, old)
}
