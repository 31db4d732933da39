package fifo

import (
	"fmt"
	"math"
	"slices"
	"strings"
	"testing"

	"ropeline/api"
	"ropeline/trace"
)

// kinds are the kinds of entries and their words, once more: the numbers stand here as they are, not by their names.
var kinds = []string{1: "call", 2: "enq", 3: "grant", 4: "abort", 5: "got", 6: "lost", 7: "full", 8: "unlock", 9: "release", 10: "over"}

// moves are the chapter's list, once more: the state of a thread and the kind of an entry, and the state behind it.
var moves = map[[2]int]int{
	{0, 1}: 1, {1, 2}: 2, {2, 3}: 3, {2, 4}: 5, {3, 5}: 4, {5, 6}: 0, {1, 7}: 0, {4, 8}: 6, {6, 9}: 7, {7, 10}: 0,
}

// farNumbers are no threads, nor how many, nor kinds; cut down to 32 bits, to 16, to 8 or to 6, many of them would be fine.
var farNumbers = []int{-1, -2, -3, -64, -256, 128, 256, 257, 259, 1024, 1 << 16, 1<<16 + 1, 1 << 31, 1 << 32, 1<<32 + 1, 1<<32 + 3, -1 << 32, 1 - 1<<32, math.MaxInt, math.MinInt}

// wrongKinds, wrongSizes and wrongNows may not be.
var (
	wrongKinds = append([]int{0, 11, 12, 13, 15, 16, 17, 31, 32}, farNumbers...)
	wrongSizes = append([]int{0, 65, 66, 100, 127}, farNumbers...)
	wrongNows  = []int{-1, -2, -17, -256, -1 << 31, -1 << 32, 1 - 1<<32, -1 << 40, math.MinInt + 1, math.MinInt}
)

func entry(kind, thread int) trace.Entry { return trace.Entry{Kind: kind, Thread: thread} }

// entries are those of lines without ticks, as "call 0, enq 0".
func entries(text string) []trace.Entry {
	var l []trace.Entry
	for _, line := range strings.Split(text, ", ") {
		var word string
		var thread int
		if _, err := fmt.Sscanf(line, "%s %d", &word, &thread); err != nil || slices.Index(kinds, word) < 1 {
			panic("no entry: " + line)
		}
		l = append(l, entry(slices.Index(kinds, word), thread))
	}
	return l
}

// model is the abstract lock, told plainly.
type model struct {
	states []int
	queue  []int
	owner  int // -1: nobody
	now    int
}

func (m *model) fits(x trace.Entry) bool {
	if x.Thread < 0 || x.Thread >= len(m.states) || x.Now < 0 || x.Now < m.now {
		return false
	}
	if _, is := moves[[2]int{m.states[x.Thread], x.Kind}]; !is {
		return false
	}
	return x.Kind != 3 || m.owner == -1 && m.queue[0] == x.Thread
}

func (m *model) take(x trace.Entry) bool {
	if !m.fits(x) {
		return false
	}
	switch x.Kind {
	case 2:
		m.queue = append(m.queue, x.Thread)
	case 3:
		m.queue, m.owner = m.queue[1:], x.Thread
	case 4:
		n := slices.Index(m.queue, x.Thread)
		m.queue = slices.Concat(m.queue[:n], m.queue[n+1:])
	case 9:
		m.owner = -1
	}
	m.states[x.Thread] = moves[[2]int{m.states[x.Thread], x.Kind}]
	m.now = x.Now
	return true
}

// both is the lock, and the model of it, of which each call is held against the other's.
type both struct {
	t *testing.T
	k *Lock
	m *model
	// ran is what was taken, for a failure to tell.
	ran []trace.Entry
}

func started(t *testing.T, threads int) *both {
	t.Helper()
	k, e := New(threads)
	if k == nil || e != api.OK {
		t.Fatalf("New(%d) = %v, error %d", threads, k, e)
	}
	return &both{t: t, k: k, m: &model{states: make([]int, threads), owner: -1}}
}

func (b *both) fail(what string, got, want any) {
	b.t.Helper()
	b.t.Fatalf("%d threads, behind %v: %s = %v, want %v", len(b.m.states), b.ran, what, got, want)
}

func (b *both) take(x trace.Entry) bool {
	b.t.Helper()
	if len(b.ran) > 30 {
		b.ran = slices.Clone(b.ran[10:])
	}
	got, want := b.k.Take(x), b.m.take(x)
	if got != want {
		b.fail(fmt.Sprintf("Take(%+v)", x), got, want)
	}
	b.ran = append(b.ran, x)
	return got
}

// ask asks for all that can be seen without a change.
func (b *both) ask() {
	b.t.Helper()
	if q := b.k.Queue(); !slices.Equal(q, b.m.queue) {
		b.fail("Queue()", q, b.m.queue)
	}
	owner, owned := b.k.Owner()
	if want := b.m.owner; owned != (want >= 0) || owner != max(want, 0) {
		b.fail("Owner()", []any{owner, owned}, want)
	}
	for t, want := range b.m.states {
		if state := b.k.State(t); state != want {
			b.fail(fmt.Sprintf("State(%d)", t), state, want)
		}
	}
}

// takeAll takes entries of which each fits, and asks for all behind each.
func (b *both) takeAll(l ...trace.Entry) {
	b.t.Helper()
	for _, x := range l {
		if !b.take(x) {
			b.fail(fmt.Sprintf("Take(%+v)", x), false, true)
		}
		b.ask()
	}
}

// refuse takes entries of which none fits, and asks for all behind each.
func (b *both) refuse(l ...trace.Entry) {
	b.t.Helper()
	for _, x := range l {
		if b.take(x) {
			b.fail(fmt.Sprintf("Take(%+v)", x), true, false)
		}
		b.ask()
	}
}

// behind is a lock behind entries that fit.
func behind(t *testing.T, threads int, text string) *both {
	t.Helper()
	b := started(t, threads)
	if text != "" {
		b.takeAll(entries(text)...)
	}
	return b
}

// wantCheck asks how many entries fit, and whether all do, and that Take tells the same.
func wantCheck(t *testing.T, threads int, l []trace.Entry, want int) {
	t.Helper()
	if n, ok := Check(threads, l); n != want || ok != (want == len(l)) {
		t.Fatalf("Check(%d, %v) = %d, %v, want %d, %v", threads, l[:min(len(l), 50)], n, ok, want, want == len(l))
	}
	k, _ := New(threads)
	for n, x := range l[:min(want+1, len(l))] {
		if ok := k.Take(x); ok != (n < want) {
			t.Fatalf("%d threads, behind %v: Take(%+v) = %v", threads, l[max(n-30, 0):n], x, ok)
		}
	}
}

// draws gives numbers from a rule of its own, so that a run is the same each time.
type draws struct{ x uint64 }

func (d *draws) next(n int) int {
	d.x = d.x*6364136223846793005 + 1442695040888963407
	return int(d.x >> 33 % uint64(n))
}

// entry is one that mostly fits.
func (d *draws) entry(m *model) trace.Entry {
	x := trace.Entry{Kind: d.next(14) - 1, Thread: d.next(len(m.states)), Now: m.now}
	if d.next(40) == 0 {
		x.Thread = d.next(len(m.states)+4) - 2
	}
	switch d.next(12) {
	case 0, 1, 2:
		x.Now++
	case 3:
		x.Now += d.next(1000)
	case 4:
		x.Now -= 1 + d.next(3)
	}
	for range 12 {
		if m.fits(x) || d.next(20) == 0 {
			break
		}
		x.Kind = 1 + d.next(10)
	}
	return x
}

// P13.1: the states, and New

func TestStatesAreThoseOfTheChapter(t *testing.T) {
	for want, state := range []int{Idle, Calling, Queued, Granted, Holding, Gone, Leaving, Left} {
		if state != want {
			t.Errorf("the state behind %d others is %d", want, state)
		}
	}
}

func TestNewRefusesWhatMayNotBe(t *testing.T) {
	for _, n := range wrongSizes {
		if k, e := New(n); k != nil || e != api.ErrArg {
			t.Errorf("New(%d) = %v, error %d, want none, error %d", n, k, e, api.ErrArg)
		}
	}
}

func TestAtFirstAllAreIdle(t *testing.T) {
	for n := 1; n <= 64; n++ {
		b := started(t, n)
		b.ask()
		for thread := range n {
			for kind := 2; kind <= 10; kind++ {
				b.refuse(entry(kind, thread))
			}
			b.takeAll(entry(1, thread))
		}
	}
}

// P13.1: ordinary traces, told entry by entry

// look is a line of a trace, and how the lock stands behind it: the queue and the states of all in digits, and the owner.
type look struct {
	line, queue string
	owner       int // -1: nobody
	states      string
}

func digits(l []int) string {
	s := ""
	for _, v := range l {
		s += fmt.Sprint(v)
	}
	return s
}

// wantLooks asks for what is written down behind each entry, and that Check takes all of them.
func wantLooks(t *testing.T, looks []look) {
	t.Helper()
	threads := len(looks[0].states)
	b := started(t, threads)
	var l []trace.Entry
	for _, want := range looks {
		l = append(l, entries(want.line)...)
		b.takeAll(entries(want.line)...)
		states := ""
		for thread := range threads {
			states += fmt.Sprint(b.k.State(thread))
		}
		owner, owned := b.k.Owner()
		if q := digits(b.k.Queue()); q != want.queue || states != want.states || owned != (want.owner >= 0) || owned && owner != want.owner {
			t.Errorf("behind %v: queue %q, owner %d, %v, states %s, want %+v", l, q, owner, owned, states, want)
		}
	}
	wantCheck(t, threads, l, len(l))
}

func TestOneThread(t *testing.T) {
	wantLooks(t, []look{
		{"call 0", "", -1, "1"},
		{"enq 0", "0", -1, "2"},
		{"grant 0", "", 0, "3"},
		{"got 0", "", 0, "4"},
		{"unlock 0", "", 0, "6"},
		{"release 0", "", -1, "7"},
		{"over 0", "", -1, "0"},
		{"call 0", "", -1, "1"},
		{"enq 0", "0", -1, "2"},
		{"abort 0", "", -1, "5"},
		{"lost 0", "", -1, "0"},
		{"call 0", "", -1, "1"},
		{"full 0", "", -1, "0"},
		{"call 0", "", -1, "1"},
		{"enq 0", "0", -1, "2"},
		{"grant 0", "", 0, "3"},
		{"got 0", "", 0, "4"},
	})
}

func TestSeveralThreadsOneBehindTheOther(t *testing.T) {
	wantLooks(t, []look{
		{"call 0", "", -1, "100"},
		{"call 1", "", -1, "110"},
		{"call 2", "", -1, "111"},
		{"enq 2", "2", -1, "112"},
		{"enq 0", "20", -1, "212"},
		{"grant 2", "0", 2, "213"},
		{"enq 1", "01", 2, "223"},
		{"got 2", "01", 2, "224"},
		{"unlock 2", "01", 2, "226"},
		{"release 2", "01", -1, "227"},
		{"grant 0", "1", 0, "327"},
		{"over 2", "1", 0, "320"},
		{"call 2", "1", 0, "321"},
		{"got 0", "1", 0, "421"},
		{"enq 2", "12", 0, "422"},
		{"unlock 0", "12", 0, "622"},
		{"release 0", "12", -1, "722"},
		{"over 0", "12", -1, "022"},
		{"call 0", "12", -1, "122"},
		{"enq 0", "120", -1, "222"},
		{"grant 1", "20", 1, "232"},
		{"got 1", "20", 1, "242"},
		{"unlock 1", "20", 1, "262"},
		{"release 1", "20", -1, "272"},
		{"grant 2", "0", 2, "273"},
		{"got 2", "0", 2, "274"},
		{"unlock 2", "0", 2, "276"},
		{"release 2", "0", -1, "277"},
		{"grant 0", "", 0, "377"},
		{"over 1", "", 0, "307"},
		{"over 2", "", 0, "300"},
	})
}

// One leaves as the last one of the queue, one in its midst, one as its first one, with an owner ahead of them and without.
func TestSomeGiveUp(t *testing.T) {
	wantLooks(t, []look{
		{"call 0", "", -1, "10000"},
		{"enq 0", "0", -1, "20000"},
		{"grant 0", "", 0, "30000"},
		{"call 1", "", 0, "31000"},
		{"enq 1", "1", 0, "32000"},
		{"call 2", "1", 0, "32100"},
		{"enq 2", "12", 0, "32200"},
		{"call 3", "12", 0, "32210"},
		{"enq 3", "123", 0, "32220"},
		{"call 4", "123", 0, "32221"},
		{"enq 4", "1234", 0, "32222"},
		{"abort 4", "123", 0, "32225"},
		{"abort 2", "13", 0, "32525"},
		{"abort 1", "3", 0, "35525"},
		{"lost 2", "3", 0, "35025"},
		{"got 0", "3", 0, "45025"},
		{"lost 4", "3", 0, "45020"},
		{"call 2", "3", 0, "45120"},
		{"enq 2", "32", 0, "45220"},
		{"call 4", "32", 0, "45221"},
		{"enq 4", "324", 0, "45222"},
		{"unlock 0", "324", 0, "65222"},
		{"release 0", "324", -1, "75222"},
		{"abort 3", "24", -1, "75252"},
		{"abort 4", "2", -1, "75255"},
		{"abort 2", "", -1, "75555"},
		{"lost 1", "", -1, "70555"},
		{"call 1", "", -1, "71555"},
		{"enq 1", "1", -1, "72555"},
		{"grant 1", "", 1, "73555"},
	})
}

// Who finds no node comes to no place, whoever has the lock.
func TestOneThatFindsNoNode(t *testing.T) {
	wantLooks(t, []look{
		{"call 0", "", -1, "100"},
		{"call 1", "", -1, "110"},
		{"full 1", "", -1, "100"},
		{"enq 0", "0", -1, "200"},
		{"call 1", "0", -1, "210"},
		{"full 1", "0", -1, "200"},
		{"grant 0", "", 0, "300"},
		{"call 2", "", 0, "301"},
		{"full 2", "", 0, "300"},
		{"got 0", "", 0, "400"},
		{"call 1", "", 0, "410"},
		{"call 2", "", 0, "411"},
		{"enq 2", "2", 0, "412"},
		{"full 1", "2", 0, "402"},
	})
}

func TestExampleOfTheChapter(t *testing.T) {
	for threads := 2; threads <= 64; threads++ {
		wantCheck(t, threads, entries("call 0, enq 0, call 1, enq 1, grant 1"), 4)
		wantCheck(t, threads, entries("call 0, enq 0, call 1, enq 1, abort 0, grant 1"), 6)
		wantCheck(t, threads, entries("call 0, call 1, enq 0, enq 1, grant 1"), 4)
		wantCheck(t, threads, entries("call 0, call 1, enq 0, enq 1, abort 0, grant 1"), 6)
	}
	wantLooks(t, []look{
		{"call 0", "", -1, "10"},
		{"enq 0", "0", -1, "20"},
		{"call 1", "0", -1, "21"},
		{"enq 1", "01", -1, "22"},
		{"abort 0", "1", -1, "52"},
		{"grant 1", "", 1, "53"},
	})
}

// The queue is as they came to their places, not as they called.
func TestFirstToItsPlaceIsFirst(t *testing.T) {
	b := behind(t, 4, "call 0, call 1, call 2, call 3, enq 3, enq 1, enq 2, enq 0")
	for n, thread := range []int{3, 1, 2, 0} {
		for other := range 4 {
			if other != thread {
				b.refuse(entry(3, other))
			}
		}
		b.takeAll(entry(3, thread))
		if left := len(b.k.Queue()); left != 3-n {
			t.Errorf("%d are queued, want %d", left, 3-n)
		}
		b.takeAll(entry(5, thread), entry(8, thread), entry(9, thread))
	}
}

// All threads are queued, in an order that neither rises nor falls; every third one leaves, and the others have the lock in turn.
func TestManyThreads(t *testing.T) {
	for _, n := range []int{1, 2, 3, 10, 31, 32, 33, 63, 64} {
		b := started(t, n)
		var order []int
		for i := range n {
			// 47 shares no divisor with any n here.
			thread := i * 47 % n
			order = append(order, thread)
			b.takeAll(entry(1, thread), entry(2, thread))
		}
		if q := b.k.Queue(); !slices.Equal(q, order) {
			t.Errorf("the queue is %v, want %v", q, order)
		}
		for i, thread := range order {
			if i%3 == 2 {
				b.takeAll(entry(4, thread))
			}
		}
		for i, thread := range order {
			if i%3 != 2 {
				b.takeAll(entry(3, thread), entry(5, thread), entry(8, thread), entry(9, thread), entry(10, thread))
			}
		}
	}
}

// P13.1: what doesn't fit

// ways are how the thread 1 of four comes to each state; the queued one in each of four ways.
var ways = []struct {
	text  string
	state int
	// fit are the kinds of entries of it that fit.
	fit []int
}{
	{"", 0, []int{1}},
	{"call 0, enq 0, grant 0, call 2, enq 2", 0, []int{1}},
	{"call 1", 1, []int{2, 7}},
	{"call 0, enq 0, call 1, grant 0", 1, []int{2, 7}},
	{"call 1, enq 1", 2, []int{3, 4}},
	{"call 1, enq 1, call 0, enq 0", 2, []int{3, 4}},
	{"call 0, enq 0, call 1, enq 1", 2, []int{4}},
	{"call 0, enq 0, call 1, enq 1, call 2, enq 2", 2, []int{4}},
	{"call 0, enq 0, grant 0, call 1, enq 1", 2, []int{4}},
	{"call 0, enq 0, grant 0, got 0, call 1, enq 1", 2, []int{4}},
	{"call 0, enq 0, grant 0, got 0, unlock 0, call 1, enq 1", 2, []int{4}},
	{"call 0, enq 0, grant 0, got 0, unlock 0, release 0, call 1, enq 1", 2, []int{3, 4}},
	{"call 0, enq 0, grant 0, call 2, enq 2, call 1, enq 1", 2, []int{4}},
	{"call 1, enq 1, grant 1", 3, []int{5}},
	{"call 1, enq 1, grant 1, call 0, enq 0", 3, []int{5}},
	{"call 1, enq 1, grant 1, got 1", 4, []int{8}},
	{"call 1, enq 1, grant 1, got 1, call 2, enq 2", 4, []int{8}},
	{"call 1, enq 1, abort 1", 5, []int{6}},
	{"call 0, enq 0, call 1, enq 1, abort 1", 5, []int{6}},
	{"call 1, enq 1, grant 1, got 1, unlock 1", 6, []int{9}},
	{"call 1, enq 1, grant 1, got 1, call 3, enq 3, unlock 1", 6, []int{9}},
	{"call 1, enq 1, grant 1, got 1, unlock 1, release 1", 7, []int{10}},
	{"call 1, enq 1, call 0, enq 0, grant 1, got 1, unlock 1, release 1, grant 0", 7, []int{10}},
}

func TestEachKindBehindEachState(t *testing.T) {
	for _, way := range ways {
		for kind := 1; kind <= 10; kind++ {
			b := behind(t, 4, way.text)
			if state := b.k.State(1); state != way.state {
				t.Fatalf("behind %q: State(1) = %d, want %d", way.text, state, way.state)
			}
			if slices.Contains(way.fit, kind) {
				b.takeAll(entry(kind, 1))
			} else {
				b.refuse(entry(kind, 1))
			}
		}
	}
}

// Behind all that doesn't fit, what fits is done as if nothing had been there.
func TestRefusedChangesNothing(t *testing.T) {
	for _, way := range ways {
		for _, kind := range way.fit {
			b := behind(t, 4, way.text)
			for range 2 {
				for _, wrong := range append([]int{1, 2, 3, 4, 5, 6, 7, 8, 9, 10}, wrongKinds...) {
					if !slices.Contains(way.fit, wrong) {
						b.refuse(trace.Entry{Kind: wrong, Thread: 1, Now: 9})
					}
				}
				for _, thread := range append([]int{4, 5, 63, 64, 65}, farNumbers...) {
					b.refuse(trace.Entry{Kind: kind, Thread: thread, Now: 9})
				}
				for _, now := range wrongNows {
					b.refuse(trace.Entry{Kind: kind, Thread: 1, Now: now})
				}
			}
			b.takeAll(entry(kind, 1))
		}
	}
}

func TestGrantOfOneThatIsNotTheFirst(t *testing.T) {
	for _, n := range []int{2, 3, 10, 64} {
		b := started(t, n)
		for thread := range n {
			b.takeAll(entry(1, thread), entry(2, thread))
		}
		for thread := n - 1; thread > 0; thread-- {
			b.refuse(entry(3, thread))
		}
		// The first one leaves, and the second one is the first one then.
		b.takeAll(entry(4, 0))
		for thread := n - 1; thread > 1; thread-- {
			b.refuse(entry(3, thread))
		}
		b.refuse(entry(3, 0))
		b.takeAll(entry(3, 1))
	}
}

func TestGrantOfTheFirstWhileThereIsAnOwner(t *testing.T) {
	for _, owner := range []int{0, 1, 2} {
		first, second := (owner+1)%3, (owner+2)%3
		b := started(t, 3)
		b.takeAll(entry(1, owner), entry(2, owner), entry(1, first), entry(2, first), entry(1, second), entry(2, second))
		for _, kind := range []int{3, 5, 8} {
			b.takeAll(entry(kind, owner))
			b.refuse(entry(3, first), entry(3, second), entry(3, owner))
		}
		b.takeAll(entry(9, owner))
		b.refuse(entry(3, second), entry(3, owner))
		b.takeAll(entry(3, first))
		b.refuse(entry(3, second))
	}
}

// Whoever is named but a thread that there is, nothing fits.
func TestThreadsThatThereAreNot(t *testing.T) {
	for _, n := range []int{1, 2, 3, 63, 64} {
		b := started(t, n)
		for state := range 4 {
			for _, thread := range append([]int{n, n + 1, 2 * n, -n, 64, 65}, farNumbers...) {
				if thread >= 0 && thread < n {
					continue
				}
				for kind := -1; kind <= 12; kind++ {
					b.refuse(entry(kind, thread))
				}
				if s := b.k.State(thread); s != 0 {
					b.fail(fmt.Sprintf("State(%d)", thread), s, 0)
				}
			}
			for _, thread := range slices.Compact([]int{0, n - 1}) {
				b.takeAll([]trace.Entry{entry(1, thread), entry(2, thread), entry(4, thread), entry(6, thread)}[state])
			}
		}
	}
}

// Of the numbers that a thread may have, those alone that are less than how many there are.
func TestThreadsFrom0On(t *testing.T) {
	for n := 1; n <= 64; n++ {
		b := started(t, n)
		for thread := -70; thread < 140; thread++ {
			if thread >= 0 && thread < n {
				b.takeAll(entry(1, thread))
			} else {
				b.refuse(entry(1, thread))
			}
		}
	}
}

func TestKindsThatThereAreNot(t *testing.T) {
	for _, way := range ways {
		b := behind(t, 4, way.text)
		for _, kind := range wrongKinds {
			for thread := range 4 {
				b.refuse(entry(kind, thread))
			}
		}
	}
	b := started(t, 1)
	for kind := -300; kind <= 300; kind++ {
		if kind != 1 {
			b.refuse(entry(kind, 0))
		}
	}
}

// P13.1: Now

func TestNowBelow0(t *testing.T) {
	for _, now := range wrongNows {
		b := started(t, 2)
		b.refuse(trace.Entry{Kind: 1, Now: now}, trace.Entry{Kind: 1, Thread: 1, Now: now})
		b.takeAll(trace.Entry{Kind: 1})
		b.refuse(trace.Entry{Kind: 2, Now: now}, trace.Entry{Kind: 1, Thread: 1, Now: now})
		wantCheck(t, 2, []trace.Entry{{Kind: 1, Now: now}}, 0)
		wantCheck(t, 2, []trace.Entry{{Kind: 1}, {Kind: 2, Now: now}}, 1)
	}
}

// The same Now as ahead fits, and the greatest one; one below doesn't, of the same thread and of another one.
func TestNowOfEachKind(t *testing.T) {
	l := entries("call 0, enq 0, grant 0, got 0, unlock 0, release 0, over 0, call 0, enq 0, abort 0, lost 0, call 0, full 0")
	for _, now := range []int{0, 1, 17, 1 << 31, 1 << 32, 1 << 40, 1<<40 + 1, math.MaxInt - 1, math.MaxInt} {
		for n, x := range l {
			for _, later := range []int{now, math.MaxInt} {
				b := started(t, 2)
				b.takeAll(trace.Entry{Kind: 1, Thread: 1, Now: now})
				for _, ahead := range l[:n] {
					b.takeAll(trace.Entry{Kind: ahead.Kind, Now: now})
				}
				b.refuse(trace.Entry{Kind: x.Kind, Now: now - 1})
				b.takeAll(trace.Entry{Kind: x.Kind, Now: later})
				b.refuse(trace.Entry{Kind: 2, Thread: 1, Now: later - 1})
				b.takeAll(trace.Entry{Kind: 2, Thread: 1, Now: later})
			}
		}
	}
}

// What was refused, for its Now or for all else, doesn't say which Now may come next.
func TestNowOfWhatIsRefusedIsForgotten(t *testing.T) {
	b := started(t, 2)
	b.refuse(trace.Entry{Kind: 2, Now: 50}, trace.Entry{Kind: 1, Thread: 2, Now: 60}, trace.Entry{Kind: 11, Now: math.MaxInt}, trace.Entry{Kind: 1, Now: -5})
	b.takeAll(trace.Entry{Kind: 1, Now: 0})
	b.takeAll(trace.Entry{Kind: 2, Now: 20}, trace.Entry{Kind: 1, Thread: 1, Now: 20}, trace.Entry{Kind: 2, Thread: 1, Now: 21})
	b.refuse(trace.Entry{Kind: 3, Now: 20}, trace.Entry{Kind: 3, Thread: 1, Now: 40}, trace.Entry{Kind: 4, Thread: -1, Now: 40}, trace.Entry{Kind: 1, Now: 3}, trace.Entry{Kind: 0, Now: math.MaxInt})
	b.refuse(trace.Entry{Kind: 3, Now: 20})
	b.takeAll(trace.Entry{Kind: 3, Now: 21})
	b.refuse(trace.Entry{Kind: 3, Thread: 1, Now: math.MaxInt})
	b.takeAll(trace.Entry{Kind: 5, Now: 22})
}

// The last Now ahead says it, the first ones don't.
func TestNowOfAnyEntryAhead(t *testing.T) {
	l := []trace.Entry{{Kind: 1, Now: 5}, {Kind: 2, Now: 7}, {Kind: 1, Thread: 1, Now: 7}, {Kind: 3, Now: 100}, {Kind: 2, Thread: 1, Now: 100}}
	wantCheck(t, 2, l, 5)
	for n := 1; n < len(l); n++ {
		for _, now := range []int{0, 4, l[n-1].Now - 1, -1, math.MinInt} {
			wrong := slices.Clone(l)
			wrong[n].Now = now
			wantCheck(t, 2, wrong, n)
		}
		// One that is above what stands behind it, too, fits; that one doesn't then.
		wrong := slices.Clone(l)
		wrong[n-1].Now = math.MaxInt
		wantCheck(t, 2, wrong, n)
	}
}

// P13.1: behind any entries

// standing is what a model is but for its Now.
func (m *model) standing() string { return fmt.Sprint(m.states, m.queue, m.owner) }

// Each entry of each kind and thread, of none, too, behind each way in which the lock of up to four threads may stand.
func TestEachEntryBehindEachStanding(t *testing.T) {
	for threads, want := range map[int]int{1: 8, 2: 56, 3: 376, 4: 2528} {
		paths := [][]trace.Entry{nil}
		seen := map[string]bool{(&model{states: make([]int, threads), owner: -1}).standing(): true}
		for n := 0; n < len(paths); n++ {
			b := stood(t, threads, paths[n])
			b.ask()
			for kind := -1; kind <= 12; kind++ {
				for thread := -1; thread <= threads; thread++ {
					if !b.take(entry(kind, thread)) {
						b.ask()
						continue
					}
					b.ask()
					if s := b.m.standing(); !seen[s] {
						seen[s] = true
						paths = append(paths, append(slices.Clone(paths[n]), entry(kind, thread)))
					}
					b = stood(t, threads, paths[n])
				}
			}
		}
		if len(paths) != want {
			t.Errorf("%d threads: there are %d standings, want %d", threads, len(paths), want)
		}
	}
}

// stood is a lock behind entries that fit, without asking on the way.
func stood(t *testing.T, threads int, l []trace.Entry) *both {
	t.Helper()
	b := started(t, threads)
	for _, x := range l {
		b.take(x)
	}
	return b
}

func TestLongMixedRuns(t *testing.T) {
	for _, n := range []int{1, 2, 3, 5, 31, 32, 33, 63, 64} {
		d := &draws{x: uint64(n)}
		b := started(t, n)
		done := 0
		for range 20000 {
			if b.take(d.entry(b.m)) {
				done++
			}
			b.ask()
		}
		if done < 5000 {
			t.Errorf("%d threads: only %d entries fitted", n, done)
		}
	}
}

// taken are entries that fit, one behind the other.
func taken(threads, many int, d *draws) []trace.Entry {
	m := &model{states: make([]int, threads), owner: -1}
	var l []trace.Entry
	for len(l) < many {
		if x := d.entry(m); m.take(x) {
			l = append(l, x)
		}
	}
	return l
}

// What fits, of entries that are any: nobody is granted the lock while another one has it, and all are in the order in which they came to their places.
func TestFirstComeFirstServed(t *testing.T) {
	for _, n := range []int{2, 3, 8, 64} {
		k, _ := New(n)
		d := &draws{x: 100 + uint64(n)}
		var came, served []int
		owner := -1
		for range 10000 * n {
			x := entry(1+d.next(10), d.next(n))
			if !k.Take(x) {
				continue
			}
			switch x.Kind {
			case 2:
				came = append(came, x.Thread)
			case 3:
				if owner != -1 {
					t.Fatalf("%d is granted the lock while %d has it", x.Thread, owner)
				}
				owner, served = x.Thread, append(served, x.Thread)
			case 4:
				last := slices.Index(came[len(served):], x.Thread) + len(served)
				came = slices.Delete(came, last, last+1)
			case 9:
				if owner != x.Thread {
					t.Fatalf("%d releases the lock while %d has it", x.Thread, owner)
				}
				owner = -1
			}
			if !slices.Equal(k.Queue(), came[len(served):]) {
				t.Fatalf("the queue is %v, want %v", k.Queue(), came[len(served):])
			}
		}
		if len(served) < 100 || !slices.Equal(served, came[:len(served)]) {
			t.Errorf("%d threads: %d were served, not in order, or too few", n, len(served))
		}
	}
}

// What was asked on the way makes no difference.
func TestAskingChangesNothing(t *testing.T) {
	for _, every := range []int{1, 50, 2000} {
		d := &draws{x: 11}
		b := started(t, 6)
		for i := range 2000 {
			b.take(d.entry(b.m))
			for range 3 {
				if i%every == every-1 {
					b.ask()
				}
			}
		}
	}
}

func TestLocksMadeTwiceShareNothing(t *testing.T) {
	b, c := started(t, 5), started(t, 5)
	d := &draws{x: 12}
	for range 3000 {
		b.take(d.entry(b.m))
		c.ask()
		c.take(d.entry(c.m))
		b.ask()
	}
	started(t, 5).ask()
	wantCheck(t, 5, entries("call 4, enq 4"), 2)
	b.ask()
	c.ask()
}

// P13.1: what is answered

// spoil writes into all the room that a list has.
func spoil(l []int) {
	for n := range l[:cap(l)] {
		l[:cap(l)][n] = -7 - n
	}
}

func TestTheQueueThatWasAnsweredIsItsOwn(t *testing.T) {
	b := behind(t, 5, "call 4, call 0, call 2, call 3, call 1, enq 4, enq 0, enq 2, enq 3")
	first, second := b.k.Queue(), b.k.Queue()
	spoil(first)
	if !slices.Equal(second, []int{4, 0, 2, 3}) {
		t.Errorf("an answer was written into: another one is %v", second)
	}
	b.ask()
	// What is laid behind an answer isn't laid into the queue, nor the other way round.
	longer := append(b.k.Queue(), 1, 1, 1)
	b.takeAll(entry(2, 1))
	if !slices.Equal(longer, []int{4, 0, 2, 3, 1, 1, 1}) {
		t.Errorf("the answer is %v", longer)
	}
	spoil(b.k.Queue())
	b.ask()
	b.takeAll(entry(3, 4), entry(4, 2))
	if !slices.Equal(second, []int{4, 0, 2, 3}) {
		t.Errorf("the queue went on: the answer is %v", second)
	}
	spoil(b.k.Queue()[:1])
	b.takeAll(entry(5, 4), entry(8, 4), entry(9, 4), entry(3, 0))
}

// At each of the queue's lengths, growing and shrinking, the answers are all their own.
func TestQueuesOfEachLengthAreTheirOwn(t *testing.T) {
	b := started(t, 64)
	var answers, copies [][]int
	keep := func() {
		spoil(b.k.Queue())
		b.ask()
		answers = append(answers, b.k.Queue())
		copies = append(copies, slices.Clone(b.k.Queue()))
	}
	for thread := range 64 {
		keep()
		b.takeAll(entry(1, thread), entry(2, thread))
	}
	for thread := range 64 {
		keep()
		if thread%2 == 0 {
			b.takeAll(entry(3, thread), entry(5, thread), entry(8, thread), entry(9, thread))
		} else {
			b.takeAll(entry(4, thread))
		}
	}
	keep()
	for n := range answers {
		if !slices.Equal(answers[n], copies[n]) {
			t.Errorf("an answer is %v, want %v", answers[n], copies[n])
		}
	}
}

// The owner is told at each state from Grant to Release, the thread 0 as others are, and nobody is 0 and false.
func TestOwner(t *testing.T) {
	for _, thread := range []int{0, 1, 62, 63} {
		k, _ := New(64)
		for _, want := range []struct {
			kind  int
			owned bool
		}{{1, false}, {2, false}, {3, true}, {5, true}, {8, true}, {9, false}, {10, false}, {1, false}, {7, false}, {1, false}, {2, false}, {4, false}, {6, false}} {
			if !k.Take(entry(want.kind, thread)) {
				t.Fatalf("Take(%d, %d) = false", want.kind, thread)
			}
			owner, owned := k.Owner()
			if owned != want.owned || owned && owner != thread || !owned && owner != 0 {
				t.Errorf("behind %d of %d: Owner() = %d, %v", want.kind, thread, owner, owned)
			}
		}
	}
}

func TestStateOfNoThread(t *testing.T) {
	for _, n := range []int{1, 2, 63, 64} {
		b := started(t, n)
		for thread := range n {
			b.takeAll(entry(1, thread), entry(2, thread))
		}
		for _, thread := range append([]int{n, n + 1, -n, 64, 65}, farNumbers...) {
			if s := b.k.State(thread); (thread < 0 || thread >= n) && s != 0 {
				t.Errorf("%d threads: State(%d) = %d, want 0", n, thread, s)
			}
		}
	}
}

// P13.1: Check

func TestCheckOfNoEntries(t *testing.T) {
	for n := 1; n <= 64; n++ {
		wantCheck(t, n, nil, 0)
		wantCheck(t, n, []trace.Entry{}, 0)
		wantCheck(t, n, entries("call 0")[:0], 0)
	}
}

func TestCheckOfSoManyThreadsAsMayNotBe(t *testing.T) {
	for _, n := range wrongSizes {
		for _, l := range [][]trace.Entry{nil, {}, entries("call 0"), entries("call 0, enq 0, grant 0, got 0"), entries("enq 0"), entries("call 1, over 0"), {{Kind: 1, Now: -1}}} {
			if many, ok := Check(n, l); many != 0 || ok {
				t.Errorf("Check(%d, %v) = %d, %v, want 0, false", n, l, many, ok)
			}
		}
	}
}

// The first entry that doesn't fit ends it, at the beginning, in the midst, at the end, whatever comes behind it.
func TestCheckOfOneThatDoesNotFit(t *testing.T) {
	good := entries("call 1, call 0, enq 0, enq 1, call 2, enq 2, grant 0, got 0, abort 1, unlock 0, lost 1, release 0, grant 2, over 0, call 0, full 0, got 2, call 1, enq 1")
	for n := range good {
		good[n].Now = 3 + n/2
	}
	wantCheck(t, 3, good, len(good))
	wantCheck(t, 64, good, len(good))
	wantCheck(t, 2, good, 4)
	wantCheck(t, 1, good, 0)
	for n := range len(good) + 1 {
		wantCheck(t, 3, good[:n], n)
		now := 3
		if n > 0 {
			now = good[n-1].Now
		}
		for _, x := range []trace.Entry{
			{}, {Kind: 11, Now: now}, {Kind: -1, Now: now}, {Kind: math.MaxInt, Now: now},
			{Kind: 1, Thread: 3, Now: now}, {Kind: 1, Thread: -1, Now: now}, {Kind: 1, Thread: 64, Now: now},
			{Kind: 1, Now: -1}, {Kind: 6, Thread: 2, Now: now},
		} {
			bad := []trace.Entry{x}
			wantCheck(t, 3, slices.Concat(good[:n], bad, good[n:]), n)
			wantCheck(t, 3, slices.Concat(good[:n], bad), n)
			wantCheck(t, 3, slices.Concat(good[:n], bad, bad, bad, good[n:], bad), n)
		}
	}
}

// Each trace with one entry left out, twice there, or changed with its neighbour: Check and Take tell what the model says.
func TestCheckAndTakeTellTheSame(t *testing.T) {
	same := func(threads int, l []trace.Entry) {
		t.Helper()
		m := &model{states: make([]int, threads), owner: -1}
		want := 0
		for want < len(l) && m.take(l[want]) {
			want++
		}
		wantCheck(t, threads, l, want)
	}
	for _, n := range []int{1, 2, 3, 4, 9, 64} {
		d := &draws{x: 30 + uint64(n)}
		for range 5 {
			l := taken(n, 60, d)
			same(n, l)
			same(max(n-1, 1), l)
			for at := range l {
				same(n, l[at:])
				same(n, l[:at])
				same(n, slices.Delete(slices.Clone(l), at, at+1))
				same(n, slices.Insert(slices.Clone(l), at, l[at]))
				swapped := slices.Clone(l)
				swapped[at], swapped[len(l)-1-at] = l[len(l)-1-at], l[at]
				same(n, swapped)
				for kind := range 12 {
					changed := slices.Clone(l)
					changed[at].Kind = kind
					same(n, changed)
				}
			}
		}
	}
}

func TestCheckOfLongTraces(t *testing.T) {
	for _, n := range []int{1, 3, 64} {
		l := taken(n, 30000, &draws{x: 50})
		wantCheck(t, n, l, len(l))
		wantCheck(t, n, append(l, trace.Entry{Kind: 1, Thread: 0, Now: -1}), len(l))
	}
}

// Each call of a list that lies in a longer one: neither is written into, and the lock keeps neither.
func TestNoListIsWrittenInto(t *testing.T) {
	d := &draws{x: 60}
	for range 50 {
		whole := append(taken(4, 40, d), trace.Entry{Kind: 11, Thread: -1, Now: -1})
		kept := slices.Clone(whole)
		for _, l := range [][]trace.Entry{whole, whole[:20], whole[10:30], whole[3:3]} {
			Check(4, l)
			Check(2, l)
			Check(0, l)
			k, _ := New(4)
			for _, x := range l {
				k.Take(x)
			}
		}
		if !slices.Equal(whole, kept) {
			t.Fatalf("the list is %v, want %v", whole, kept)
		}
	}
}

func TestCheckTwiceTellsTheSame(t *testing.T) {
	l := entries("call 0, enq 0, call 1, enq 1, grant 0")
	for range 3 {
		wantCheck(t, 2, l, 5)
		wantCheck(t, 2, l[1:], 0)
		wantCheck(t, 1, l, 2)
		if n, ok := Check(65, l); n != 0 || ok {
			t.Errorf("Check(65, ..) = %d, %v, want 0, false", n, ok)
		}
	}
}

// Of a lock that New didn't make nothing is promised but an end.
func TestALockThatNewDidNotMake(t *testing.T) {
	var k Lock
	for kind := range 12 {
		k.Take(entry(kind, 0))
	}
	k.Queue()
	k.Owner()
	k.State(0)
}
