package locktest

import (
	"slices"
	"strings"

	"ropeline/api"
	"ropeline/asm"
	"ropeline/exec"
)

// Alike is a fault if a spec isn't the one that is wanted.
func Alike(s, want api.Spec) error {
	switch {
	case !asm.Same(s.Code, want.Code):
		text, _ := asm.Print(s.Code)
		return fault("the code isn't the one that is wanted, it is:\n" + text)
	case !slices.Equal(s.Sizes, want.Sizes):
		return fault("the sizes are" + numbers(s.Sizes) + ", want" + numbers(want.Sizes))
	case !slices.Equal(s.Init, want.Init):
		return fault("the cells are" + numbers(s.Init) + ", want" + numbers(want.Init))
	case s.Each != want.Each:
		return fault("each has" + numbers([]int{s.Each}) + " nodes, want" + numbers([]int{want.Each}))
	case !slices.Equal(s.R7, want.R7):
		return fault("the registers 7 are" + numbers(s.R7) + ", want" + numbers(want.R7))
	}
	return nil
}

// Own is a fault if not each spec that is answered is the one that is wanted, whatever is laid into others, and into other lists of the same one.
func Own(want api.Spec, answer func() api.Spec) error {
	first, second := answer(), answer()
	for _, s := range []*api.Spec{&first, &second} {
		if err := Alike(*s, want); err != nil {
			return err
		}
		Spoil(s)
		if err := Alike(answer(), want); err != nil {
			return fault("once another one is spoilt: " + err.Error())
		}
	}
	cells, registers := answer(), answer()
	Spoil(&api.Spec{Init: cells.Init})
	Spoil(&api.Spec{R7: registers.R7})
	if !slices.Equal(cells.R7, want.R7) || !slices.Equal(registers.Init, want.Init) {
		return fault("its cells and its registers 7 share memory")
	}
	return nil
}

// Program is a fault if a text isn't these lines, each time that it is asked for, or if they don't mean that code.
func Program(text func() string, lines []string, code api.Code) error {
	want := strings.Join(lines, "\n") + "\n"
	for range 2 {
		if s := text(); s != want {
			return fault("the text isn't the one that is wanted, it is:\n" + s)
		}
	}
	assembled, line, e := asm.Assemble(want)
	if e != api.OK {
		return fault("the text isn't a program's:" + numbers([]int{line, int(e)}))
	}
	return Alike(api.Spec{Code: assembled}, api.Spec{Code: code})
}

// Specs is a fault if not, for each number of threads that may be, the spec is the one that is wanted, its own, and a lock's; or if another number isn't refused.
func Specs(answer func(n int) (api.Spec, api.Errno), want func(n int) api.Spec) error {
	for n := 1; n <= api.MaxThreads; n++ {
		s, e := answer(n)
		if e != api.OK || !exec.Right(s, n) {
			return fault("it isn't a lock's of so many threads:" + numbers([]int{n}))
		}
		err := Own(want(n), func() api.Spec {
			s, _ := answer(n)
			return s
		})
		if err != nil {
			return fault("of so many threads" + numbers([]int{n}) + ": " + err.Error())
		}
	}
	for _, n := range WrongSizes() {
		s, e := answer(n)
		if e != api.ErrConfig {
			return fault("so many threads aren't refused:" + numbers([]int{n}))
		}
		if err := Alike(s, api.Spec{}); err != nil {
			return fault("beside a refusal: " + err.Error())
		}
	}
	return nil
}
