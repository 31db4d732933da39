package locktest

import (
	"slices"

	"ropeline/api"
	"ropeline/asm"
)

// Alike is a fault if a spec isn't the one that is wanted.
func Alike(s, want api.Spec) error {
	switch {
	case !asm.Same(s.Code, want.Code):
		text, _ := asm.Print(s.Code)
		return fault("the code isn't the one that is wanted, it is:\n" + text)
	case !slices.Equal(s.Sizes, want.Sizes):
		return fault("the sizes are" + numbers(s.Sizes) + ", want" + numbers(want.Sizes))
	case !slices.Equal(s.Init, want.Init):
		return fault("the cells are" + numbers(s.Init) + ", want" + numbers(want.Init))
	case s.Each != want.Each:
		return fault("each has" + numbers([]int{s.Each}) + " nodes, want" + numbers([]int{want.Each}))
	case !slices.Equal(s.R7, want.R7):
		return fault("the registers 7 are" + numbers(s.R7) + ", want" + numbers(want.R7))
	}
	return nil
}

// Own is a fault if not each spec that is answered is the one that is wanted, whatever is laid into others, and into other lists of the same one.
func Own(want api.Spec, answer func() api.Spec) error {
	first, second := answer(), answer()
	for _, s := range []*api.Spec{&first, &second} {
		if err := Alike(*s, want); err != nil {
			return err
		}
		Spoil(s)
		if err := Alike(answer(), want); err != nil {
			return fault("once another one is spoilt: " + err.Error())
		}
	}
	cells, registers := answer(), answer()
	Spoil(&api.Spec{Init: cells.Init})
	Spoil(&api.Spec{R7: registers.R7})
	if !slices.Equal(cells.R7, want.R7) || !slices.Equal(registers.Init, want.Init) {
		return fault("its cells and its registers 7 share memory")
	}
	return nil
}
