package locktest

import (
	"math"
	"strings"
	"testing"

	"ropeline/api"
	"ropeline/asm"
)

// small is a spec whose lists are all short.
func small(t *testing.T) api.Spec {
	t.Helper()
	code, _, e := asm.Assemble(alone)
	if e != api.OK {
		t.Fatalf("Assemble(%q): error %d", alone, e)
	}
	return api.Spec{Code: code, Sizes: []int{1, 2}, Init: []uint32{7, 8, 9}, R7: []uint32{5, 6}}
}

func TestAlike(t *testing.T) {
	wantTold(t, "the same", Alike(small(t), small(t)), "")
	wantTold(t, "none", Alike(api.Spec{Sizes: []int{}}, api.Spec{R7: []uint32{}}), "")
	for _, c := range []struct {
		sort   string
		change func(s *api.Spec)
	}{
		{"the code", func(s *api.Spec) { s.Code.L[0].K = 3 }},
		{"the code", func(s *api.Spec) { s.Code.L = s.Code.L[1:] }},
		{"lock:\nmark 1\nmark 2\nunlock:\ndone 1\nmark 4\ndone 2\n", func(s *api.Spec) { s.Code.Unlock-- }},
		{"the code", func(s *api.Spec) { s.Code.Lock++ }},
		{"the sizes are 1 3, want 1 2", func(s *api.Spec) { s.Sizes[1] = 3 }},
		{"the sizes are 1 2 1, want 1 2", func(s *api.Spec) { s.Sizes = append(s.Sizes, 1) }},
		{"the cells are 7 8 10, want 7 8 9", func(s *api.Spec) { s.Init[2] = 10 }},
		{"the cells are, want 7 8 9", func(s *api.Spec) { s.Init = nil }},
		{"each has 1 nodes, want 0", func(s *api.Spec) { s.Each = 1 }},
		{"the registers 7 are 5 5, want 5 6", func(s *api.Spec) { s.R7[1] = 5 }},
		{"the registers 7 are 5, want 5 6", func(s *api.Spec) { s.R7 = s.R7[:1] }},
	} {
		s := small(t)
		c.change(&s)
		wantTold(t, c.sort, Alike(s, small(t)), c.sort)
		wantTold(t, c.sort+", the other way round", Alike(small(t), s), c.sort[:8])
	}
}

// keeps answers small, of which all that pick gives is the same one each time.
func keeps(t *testing.T, pick func(kept, fresh api.Spec) api.Spec) func() api.Spec {
	kept := small(t)
	return func() api.Spec { return pick(kept, small(t)) }
}

func TestOwn(t *testing.T) {
	wantTold(t, "each its own", Own(small(t), func() api.Spec { return small(t) }), "")
	for _, c := range []struct {
		sort string
		pick func(kept, fresh api.Spec) api.Spec
	}{
		{"the code", func(kept, fresh api.Spec) api.Spec { fresh.Code = kept.Code; return fresh }},
		{"the sizes", func(kept, fresh api.Spec) api.Spec { fresh.Sizes = kept.Sizes; return fresh }},
		{"the cells", func(kept, fresh api.Spec) api.Spec { fresh.Init = kept.Init; return fresh }},
		{"the registers 7", func(kept, fresh api.Spec) api.Spec { fresh.R7 = kept.R7; return fresh }},
	} {
		wantTold(t, c.sort+" kept", Own(small(t), keeps(t, c.pick)), c.sort)
	}
	other := small(t)
	other.Each = 1
	wantTold(t, "another one", Own(small(t), func() api.Spec { return other }), "each has 1 nodes")
}

// Of the answers, from the first one on, two are the same one.
func TestOwnAsksEachAnswer(t *testing.T) {
	for _, c := range []struct {
		a, b int
		sort string
	}{{1, 2, "the code"}, {1, 3, "once another one is spoilt: the code"}, {2, 4, "once another one is spoilt: the code"}, {5, 6, "share memory"}} {
		kept, answers := small(t), 0
		err := Own(small(t), func() api.Spec {
			answers++
			if answers == c.a || answers == c.b {
				return kept
			}
			return small(t)
		})
		wantTold(t, "two are one", err, c.sort)
	}
}

// One list lies behind the other, in what room there is.
func TestOwnAsksTheListsOfOne(t *testing.T) {
	for _, cellsFirst := range []bool{true, false} {
		want := small(t)
		want.Init, want.R7 = []uint32{0, 0}, []uint32{0, 0}
		err := Own(want, func() api.Spec {
			s, both := small(t), make([]uint32, 4)
			if s.Init, s.R7 = both[2:], both[:2]; cellsFirst {
				s.Init, s.R7 = both[:2], both[2:]
			}
			return s
		})
		wantTold(t, "lists that share", err, "share memory")
	}
}

func TestProgram(t *testing.T) {
	lines, code := strings.Split(strings.TrimSuffix(alone, "\n"), "\n"), small(t).Code
	same := func() string { return alone }
	wantTold(t, "the program", Program(same, lines, code), "")
	texts := 0
	second := func() string {
		texts++
		return alone[:len(alone)-texts+1]
	}
	wantTold(t, "another text each time", Program(second, lines, code), "the text isn't the one")
	other := asm.Copy(code)
	other.L[0].K = 3
	for _, c := range []struct {
		sort  string
		text  string
		lines []string
		code  api.Code
	}{
		{"the text isn't the one", alone + "\n", lines, code},
		{"the text isn't the one", strings.TrimSuffix(alone, "\n"), lines, code},
		{"the text isn't the one", strings.ReplaceAll(alone, "\n", "\r\n"), lines, code},
		{"the text isn't the one", "", lines, code},
		{"the text isn't the one", alone, lines[1:], code},
		{"the text isn't a program's: 2 8", "lock:\nwait\n", []string{"lock:", "wait"}, code},
		{"the code isn't the one", alone, lines, other},
		{"the code isn't the one", alone, lines, api.Code{}},
	} {
		wantTold(t, c.sort, Program(func() string { return c.text }, c.lines, c.code), c.sort)
	}
}

// specs are small ones, of so many threads.
func specs(t *testing.T) (answer func(n int) (api.Spec, api.Errno), want func(n int) api.Spec) {
	want = func(n int) api.Spec {
		s := small(t)
		s.R7 = make([]uint32, n)
		return s
	}
	answer = func(n int) (api.Spec, api.Errno) {
		if n < 1 || n > api.MaxThreads {
			return api.Spec{}, api.ErrConfig
		}
		return want(n), api.OK
	}
	return answer, want
}

func TestSpecs(t *testing.T) {
	answer, want := specs(t)
	wantTold(t, "all of them", Specs(answer, want), "")
	for _, c := range []struct {
		sort   string
		n      int
		change func(s *api.Spec, e *api.Errno)
	}{
		{"a lock's of so many threads: 1", 1, func(_ *api.Spec, e *api.Errno) { *e = api.ErrConfig }},
		{"a lock's of so many threads: 64", 64, func(s *api.Spec, _ *api.Errno) { s.R7 = s.R7[1:] }},
		{"a lock's of so many threads: 63", 63, func(s *api.Spec, _ *api.Errno) { s.R7 = append(s.R7, 0) }},
		{"a lock's of so many threads: 5", 5, func(s *api.Spec, _ *api.Errno) { s.Each = 9 }},
		{"of so many threads 2: the cells are 7 8 0", 2, func(s *api.Spec, _ *api.Errno) { s.Init[2] = 0 }},
		{"of so many threads 64: the registers 7", 64, func(s *api.Spec, _ *api.Errno) { s.R7[63] = 1 }},
		{"so many threads aren't refused: 0", 0, func(_ *api.Spec, e *api.Errno) { *e = api.OK }},
		{"so many threads aren't refused: 65", 65, func(_ *api.Spec, e *api.Errno) { *e = api.ErrArg }},
		{"so many threads aren't refused: -1", -1, func(_ *api.Spec, e *api.Errno) { *e = api.ErrThread }},
		{"beside a refusal: the sizes are 1", 65, func(s *api.Spec, _ *api.Errno) { s.Sizes = []int{1} }},
		{"beside a refusal: each has 1 nodes", math.MinInt, func(s *api.Spec, _ *api.Errno) { s.Each = 1 }},
	} {
		err := Specs(func(n int) (api.Spec, api.Errno) {
			s, e := answer(n)
			if n == c.n {
				c.change(&s, &e)
			}
			return s, e
		}, want)
		wantTold(t, c.sort, err, c.sort)
	}
}

func TestSpecsAsksForSpecsOfTheirOwn(t *testing.T) {
	answer, want := specs(t)
	kept := want(7)
	err := Specs(func(n int) (api.Spec, api.Errno) {
		if n == 7 {
			return kept, api.OK
		}
		return answer(n)
	}, want)
	wantTold(t, "one is kept", err, "of so many threads 7: once another one is spoilt: the code")
}
