package locktest

import (
	"testing"

	"ropeline/api"
	"ropeline/asm"
)

// small is a spec whose lists are all short.
func small(t *testing.T) api.Spec {
	t.Helper()
	code, _, e := asm.Assemble(alone)
	if e != api.OK {
		t.Fatalf("Assemble(%q): error %d", alone, e)
	}
	return api.Spec{Code: code, Sizes: []int{1, 2}, Init: []uint32{7, 8, 9}, R7: []uint32{5, 6}}
}

func TestAlike(t *testing.T) {
	wantTold(t, "the same", Alike(small(t), small(t)), "")
	wantTold(t, "none", Alike(api.Spec{Sizes: []int{}}, api.Spec{R7: []uint32{}}), "")
	for _, c := range []struct {
		sort   string
		change func(s *api.Spec)
	}{
		{"the code", func(s *api.Spec) { s.Code.L[0].K = 3 }},
		{"the code", func(s *api.Spec) { s.Code.L = s.Code.L[1:] }},
		{"lock:\nmark 1\nmark 2\nunlock:\ndone 1\nmark 4\ndone 2\n", func(s *api.Spec) { s.Code.Unlock-- }},
		{"the code", func(s *api.Spec) { s.Code.Lock++ }},
		{"the sizes are 1 3, want 1 2", func(s *api.Spec) { s.Sizes[1] = 3 }},
		{"the sizes are 1 2 1, want 1 2", func(s *api.Spec) { s.Sizes = append(s.Sizes, 1) }},
		{"the cells are 7 8 10, want 7 8 9", func(s *api.Spec) { s.Init[2] = 10 }},
		{"the cells are, want 7 8 9", func(s *api.Spec) { s.Init = nil }},
		{"each has 1 nodes, want 0", func(s *api.Spec) { s.Each = 1 }},
		{"the registers 7 are 5 5, want 5 6", func(s *api.Spec) { s.R7[1] = 5 }},
		{"the registers 7 are 5, want 5 6", func(s *api.Spec) { s.R7 = s.R7[:1] }},
	} {
		s := small(t)
		c.change(&s)
		wantTold(t, c.sort, Alike(s, small(t)), c.sort)
		wantTold(t, c.sort+", the other way round", Alike(small(t), s), c.sort[:8])
	}
}

// keeps answers small, of which all that pick gives is the same one each time.
func keeps(t *testing.T, pick func(kept, fresh api.Spec) api.Spec) func() api.Spec {
	kept := small(t)
	return func() api.Spec { return pick(kept, small(t)) }
}

func TestOwn(t *testing.T) {
	wantTold(t, "each its own", Own(small(t), func() api.Spec { return small(t) }), "")
	for _, c := range []struct {
		sort string
		pick func(kept, fresh api.Spec) api.Spec
	}{
		{"the code", func(kept, fresh api.Spec) api.Spec { fresh.Code = kept.Code; return fresh }},
		{"the sizes", func(kept, fresh api.Spec) api.Spec { fresh.Sizes = kept.Sizes; return fresh }},
		{"the cells", func(kept, fresh api.Spec) api.Spec { fresh.Init = kept.Init; return fresh }},
		{"the registers 7", func(kept, fresh api.Spec) api.Spec { fresh.R7 = kept.R7; return fresh }},
	} {
		wantTold(t, c.sort+" kept", Own(small(t), keeps(t, c.pick)), c.sort)
	}
	other := small(t)
	other.Each = 1
	wantTold(t, "another one", Own(small(t), func() api.Spec { return other }), "each has 1 nodes")
}

// Of the answers, from the first one on, two are the same one.
func TestOwnAsksEachAnswer(t *testing.T) {
	for _, c := range []struct {
		a, b int
		sort string
	}{{1, 2, "the code"}, {1, 3, "once another one is spoilt: the code"}, {2, 4, "once another one is spoilt: the code"}, {5, 6, "share memory"}} {
		kept, answers := small(t), 0
		err := Own(small(t), func() api.Spec {
			answers++
			if answers == c.a || answers == c.b {
				return kept
			}
			return small(t)
		})
		wantTold(t, "two are one", err, c.sort)
	}
}

// One list lies behind the other, in what room there is.
func TestOwnAsksTheListsOfOne(t *testing.T) {
	for _, cellsFirst := range []bool{true, false} {
		want := small(t)
		want.Init, want.R7 = []uint32{0, 0}, []uint32{0, 0}
		err := Own(want, func() api.Spec {
			s, both := small(t), make([]uint32, 4)
			if s.Init, s.R7 = both[2:], both[:2]; cellsFirst {
				s.Init, s.R7 = both[:2], both[2:]
			}
			return s
		})
		wantTold(t, "lists that share", err, "share memory")
	}
}
