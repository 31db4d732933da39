package inst

import (
	"fmt"
	"math"
	"regexp"
	"strconv"
	"strings"
	"testing"

	"ropeline/api"
)

const (
	greatestWord = 1<<32 - 1
	behindTexts  = 1 << 30 // the first To that no text has
)

// row is a row of the chapter's table: an Op's number, what it has, its text (as a pattern whose groups are what it has, one by one), what K may be, and one of its instructions with its text.
//
// Numbers stand here as they are, not by api's names, so that the table is a second one.
type row struct {
	op      int
	has     string
	pattern string
	k0, k1  uint32
	example api.Inst
	text    string
}

const (
	reg  = ` r([0-7])`
	area = ` ([0-7])`
	num  = ` (0|[1-9][0-9]*)`
)

var rows = []row{
	{1, "DK", `const` + reg + num, 0, greatestWord, api.Inst{Op: 1, D: 3, K: 77}, "const r3 77"},
	{2, "DS", `move` + reg + reg, 0, 0, api.Inst{Op: 2, D: 1, S: 2}, "move r1 r2"},
	{3, "DSK", `addk` + reg + reg + num, 0, greatestWord, api.Inst{Op: 3, D: 1, S: 2, K: 300}, "addk r1 r2 300"},
	{4, "DSK", `andk` + reg + reg + num, 0, greatestWord, api.Inst{Op: 4, D: 2, S: 1, K: 4095}, "andk r2 r1 4095"},
	{5, "DSK", `shl` + reg + reg + num, 0, 31, api.Inst{Op: 5, D: 4, S: 5, K: 12}, "shl r4 r5 12"},
	{6, "DSK", `shr` + reg + reg + num, 0, 31, api.Inst{Op: 6, D: 5, S: 4, K: 9}, "shr r5 r4 9"},
	{7, "DST", `or` + reg + reg + reg, 0, 0, api.Inst{Op: 7, D: 1, S: 2, T: 3}, "or r1 r2 r3"},
	{8, "STP", `beq` + reg + reg + num, 0, 0, api.Inst{Op: 8, S: 1, T: 2, To: 10}, "beq r1 r2 10"},
	{9, "STP", `bne` + reg + reg + num, 0, 0, api.Inst{Op: 9, S: 6, T: 5, To: 4}, "bne r6 r5 4"},
	{10, "P", `jump` + num, 0, 0, api.Inst{Op: 10, To: 63}, "jump 63"},
	{11, "D", `self` + reg, 0, 0, api.Inst{Op: 11, D: 2}, "self r2"},
	{12, "K", `mark` + num, 1, 4, api.Inst{Op: 12, K: 2}, "mark 2"},
	{13, "K", `done` + num, 0, 3, api.Inst{Op: 13, K: 1}, "done 1"},
	{16, "DAS", `load` + reg + area + reg, 0, 0, api.Inst{Op: 16, D: 1, A: 2, S: 3}, "load r1 2 r3"},
	{17, "AST", `store` + area + reg + reg, 0, 0, api.Inst{Op: 17, A: 1, S: 2, T: 3}, "store 1 r2 r3"},
	{18, "DAST", `swap` + reg + area + reg + reg, 0, 0, api.Inst{Op: 18, D: 1, A: 2, S: 3, T: 4}, "swap r1 2 r3 r4"},
	{19, "DASTU", `cas` + reg + area + reg + reg + reg, 0, 0, api.Inst{Op: 19, D: 1, A: 2, S: 3, T: 4, U: 5}, "cas r1 2 r3 r4 r5"},
	{20, "DASK", `fadd` + reg + area + reg + num, 0, greatestWord, api.Inst{Op: 20, D: 1, A: 2, S: 3, K: 1}, "fadd r1 2 r3 1"},
	{21, "DASKTP", `await` + reg + area + reg + ` (eq|ne)` + reg + `(?: else` + num + `)?`, 0, 1, api.Inst{Op: 21, D: 2, A: 1, T: 1, To: 7}, "await r2 1 r0 eq r1 else 7"},
	{22, "D", `take` + reg, 0, 0, api.Inst{Op: 22, D: 6}, "take r6"},
	{23, "S", `free` + reg, 0, 0, api.Inst{Op: 23, S: 6}, "free r6"},
}

const letters = "DSTUAKP"

// farNumbers are no registers, no areas and no places of few; cut down to 32 bits, to 8 or to 3, many of them would be fine.
var farNumbers = []int{-2, -7, -8, 9, 10, 16, 63, 64, 256, 257, 1 << 31, -1 << 31, 1 << 32, 1<<32 + 1, -1 << 32, 1 - 1<<32, math.MaxInt, math.MinInt}

func with(i api.Inst, letter rune, v int) api.Inst {
	switch letter {
	case 'D':
		i.D = v
	case 'S':
		i.S = v
	case 'T':
		i.T = v
	case 'U':
		i.U = v
	case 'A':
		i.A = v
	case 'K':
		i.K = uint32(v)
	case 'P':
		i.To = v
	}
	return i
}

// model is what an instruction's text says by the table's patterns, number by number.
func model(s string) (api.Inst, bool) {
	for n, r := range rows {
		if m := patterns[n].FindStringSubmatch(s); m != nil {
			return r.read(m[1:])
		}
	}
	return api.Inst{}, false
}

var patterns = func() []*regexp.Regexp {
	var l []*regexp.Regexp
	for _, r := range rows {
		l = append(l, regexp.MustCompile(`\A`+r.pattern+`\z`))
	}
	return l
}()

func (r row) read(groups []string) (api.Inst, bool) {
	i := api.Inst{Op: r.op}
	for n, letter := range r.has {
		word := map[string]string{"eq": "0", "ne": "1", "": "-1"}[groups[n]]
		if word == "" {
			word = groups[n]
		}
		v, err := strconv.ParseInt(word, 10, 64)
		if err != nil || letter == 'K' && (v < int64(r.k0) || v > int64(r.k1)) || letter == 'P' && v >= behindTexts {
			return api.Inst{}, false
		}
		i = with(i, letter, int(v))
	}
	return i, true
}

func wantRight(t *testing.T, i api.Inst, places int, want bool) {
	t.Helper()
	if Right(i, places) != want {
		t.Errorf("Right(%+v, %d) = %v, want %v", i, places, !want, want)
	}
}

// wantWrong asks that an instruction isn't right, however many places there are, and has no text.
func wantWrong(t *testing.T, i api.Inst) {
	t.Helper()
	for _, places := range []int{1, 64, behindTexts, math.MaxInt} {
		wantRight(t, i, places, false)
	}
	wantNoText(t, i)
}

func wantNoText(t *testing.T, i api.Inst) {
	t.Helper()
	if s, e := Text(i); s != "" || e != api.ErrArg {
		t.Errorf("Text(%+v) = %q, error %d, want no text, error %d", i, s, e, api.ErrArg)
	}
}

// wantText asks that an instruction is right, that this is its text, and that the text is the instruction's.
func wantText(t *testing.T, i api.Inst, want string) {
	t.Helper()
	wantRight(t, i, behindTexts, true)
	if s, e := Text(i); s != want || e != api.OK {
		t.Errorf("Text(%+v) = %q, error %d, want %q", i, s, e, want)
	}
	if p, e := Parse(want); p != i || e != api.OK {
		t.Errorf("Parse(%q) = %+v, error %d, want %+v", want, p, e, i)
	}
}

func wantNoInst(t *testing.T, s string) {
	t.Helper()
	if i, e := Parse(s); i != (api.Inst{}) || e != api.ErrForm {
		t.Errorf("Parse(%q) = %+v, error %d, want none, error %d", s, i, e, api.ErrForm)
	}
}

// wantParse asks for what the table's patterns say of a text.
func wantParse(t *testing.T, s string) {
	t.Helper()
	i, ok := model(s)
	if !ok {
		wantNoInst(t, s)
		return
	}
	wantText(t, i, s)
}

// P6.1

func TestOrdinaryInstructions(t *testing.T) {
	for _, r := range rows {
		wantText(t, r.example, r.text)
		wantRight(t, r.example, r.example.To+1, true)
		if Memory(r.example) != (r.op >= 16) {
			t.Errorf("Memory(%s) = %v", r.text, Memory(r.example))
		}
		if i, ok := model(r.text); i != r.example || !ok {
			t.Errorf("the test's own table says of %q: %+v", r.text, i)
		}
	}
}

func TestExampleOfTheChapter(t *testing.T) {
	wantText(t, api.Inst{Op: api.Await, D: 2, A: 1, S: 0, T: 1, K: 0, To: 7}, "await r2 1 r0 eq r1 else 7")
}

func TestOpsAreThoseOfTheTable(t *testing.T) {
	for n, op := range []int{api.Const, api.Move, api.AddK, api.AndK, api.Shl, api.Shr, api.Or, api.Beq, api.Bne, api.Jump, api.Self, api.Mark, api.Done, api.Load, api.Store, api.Swap, api.Cas, api.Fadd, api.Await, api.Take, api.Free} {
		if rows[n].op != op {
			t.Errorf("row %d is of %d, want %d", n, rows[n].op, op)
		}
	}
}

func TestMemoryOfEveryOp(t *testing.T) {
	for op := -300; op <= 300; op++ {
		want := op >= 16 && op <= 23
		// By its Op alone: right or not, all else doesn't matter.
		for _, i := range []api.Inst{{}, {D: 9}, {To: -1}, {S: 1, T: 1, U: 1, A: 1, K: 1, To: 1}} {
			i.Op = op
			if Memory(i) != want {
				t.Errorf("Memory(%+v) = %v, want %v", i, !want, want)
			}
		}
	}
	for _, op := range []int{1<<32 + 16, 16 - 1<<32, 1<<31 + 16, math.MaxInt, math.MinInt} {
		if Memory(api.Inst{Op: op}) {
			t.Errorf("Memory of Op %d", op)
		}
	}
}

func TestOpsThatThereAreNot(t *testing.T) {
	ops := append([]int{0, 14, 15, 24, 25, 32, 48, 1<<32 + 2, 2 - 1<<32, 1<<32 + 16}, farNumbers...)
	for _, op := range ops {
		if op >= 1 && op <= 13 || op >= 16 && op <= 23 {
			continue
		}
		wantWrong(t, api.Inst{Op: op})
		for _, r := range rows {
			i := r.example
			i.Op = op
			wantWrong(t, i)
		}
	}
}

func TestRegistersFrom0To7(t *testing.T) {
	for _, r := range rows {
		for _, letter := range r.has {
			if !strings.ContainsRune("DSTU", letter) {
				continue
			}
			for v := -300; v <= 300; v++ {
				i := with(r.example, letter, v)
				if v >= 0 && v <= 7 {
					wantText(t, i, sayText(r, i))
				} else {
					wantWrong(t, i)
				}
			}
			for _, v := range farNumbers {
				wantWrong(t, with(r.example, letter, v))
			}
		}
	}
}

func TestAreasFrom0To7(t *testing.T) {
	for _, r := range rows {
		if !strings.Contains(r.has, "A") {
			continue
		}
		for v := -300; v <= 300; v++ {
			i := with(r.example, 'A', v)
			if v >= 0 && v <= 7 {
				wantText(t, i, sayText(r, i))
			} else {
				wantWrong(t, i)
			}
		}
		for _, v := range farNumbers {
			wantWrong(t, with(r.example, 'A', v))
		}
	}
}

func TestKWithinWhatTheTableSays(t *testing.T) {
	ks := []uint32{1 << 8, 1<<8 + 1, 1 << 16, 1<<31 - 1, 1 << 31, 1<<31 + 1, greatestWord - 1, greatestWord}
	for k := range uint32(70) {
		ks = append(ks, k)
	}
	for _, r := range rows {
		if !strings.Contains(r.has, "K") {
			continue
		}
		for _, k := range ks {
			i := with(r.example, 'K', int(k))
			if k >= r.k0 && k <= r.k1 {
				wantText(t, i, sayText(r, i))
			} else {
				wantWrong(t, i)
			}
		}
	}
}

func TestEdgesOfK(t *testing.T) {
	wantText(t, api.Inst{Op: api.Const}, "const r0 0")
	wantText(t, api.Inst{Op: api.Const, D: 7, K: greatestWord}, "const r7 4294967295")
	wantText(t, api.Inst{Op: api.AddK, K: greatestWord}, "addk r0 r0 4294967295")
	wantText(t, api.Inst{Op: api.AndK, D: 7, S: 7}, "andk r7 r7 0")
	wantText(t, api.Inst{Op: api.Fadd, K: greatestWord}, "fadd r0 0 r0 4294967295")
	wantText(t, api.Inst{Op: api.Shl, K: 31}, "shl r0 r0 31")
	wantText(t, api.Inst{Op: api.Shr}, "shr r0 r0 0")
	wantText(t, api.Inst{Op: api.Mark, K: api.Enq}, "mark 1")
	wantText(t, api.Inst{Op: api.Mark, K: api.Release}, "mark 4")
	wantText(t, api.Inst{Op: api.Done, K: api.TimedOut}, "done 0")
	wantText(t, api.Inst{Op: api.Done, K: api.Full}, "done 3")
	wantText(t, api.Inst{Op: api.Await, To: -1}, "await r0 0 r0 eq r0")
	wantText(t, api.Inst{Op: api.Await, K: 1, To: -1}, "await r0 0 r0 ne r0")
	for _, i := range []api.Inst{{Op: api.Shl, K: 32}, {Op: api.Shr, K: 32}, {Op: api.Mark}, {Op: api.Mark, K: 5}, {Op: api.Done, K: 4}, {Op: api.Await, K: 2}, {Op: api.Await, K: 2, To: -1}} {
		wantWrong(t, i)
	}
}

// sayText is a right instruction's text, by the row's words.
func sayText(r row, i api.Inst) string {
	s, _, _ := strings.Cut(r.text, " ")
	for _, letter := range r.has {
		switch letter {
		case 'D':
			s += fmt.Sprintf(" r%d", i.D)
		case 'S':
			s += fmt.Sprintf(" r%d", i.S)
		case 'T':
			s += fmt.Sprintf(" r%d", i.T)
		case 'U':
			s += fmt.Sprintf(" r%d", i.U)
		case 'A':
			s += fmt.Sprintf(" %d", i.A)
		case 'K':
			s += " " + sayK(r, i.K)
		case 'P':
			s += sayPlace(r, i.To)
		}
	}
	return s
}

func sayK(r row, k uint32) string {
	if r.op == 21 {
		return []string{"eq", "ne"}[k]
	}
	return fmt.Sprint(k)
}

func sayPlace(r row, to int) string {
	if r.op == 21 && to == -1 {
		return ""
	}
	if r.op == 21 {
		return fmt.Sprintf(" else %d", to)
	}
	return fmt.Sprintf(" %d", to)
}

func TestPlacesFrom0ToTheLast(t *testing.T) {
	for _, r := range rows {
		if !strings.Contains(r.has, "P") {
			continue
		}
		for _, places := range []int{1, 2, 3, 63, 64, 65, 1000, behindTexts - 1, behindTexts, behindTexts + 1, 1 << 32, 1<<32 + 1, math.MaxInt} {
			for _, to := range []int{0, places / 2, places - 1} {
				wantRight(t, with(r.example, 'P', to), places, true)
			}
			for _, to := range []int{places, math.MaxInt, -2, -3, -places - 1, -1 << 31, -1 << 32, math.MinInt} {
				wantRight(t, with(r.example, 'P', to), places, false)
			}
			wantRight(t, with(r.example, 'P', -1), places, r.op == 21)
		}
	}
}

func TestPlacesThatAreNone(t *testing.T) {
	for _, r := range rows {
		for _, places := range []int{0, -1, -2, -64, -1 << 31, -1 << 32, math.MinInt + 1, math.MinInt} {
			if !strings.Contains(r.has, "P") {
				wantRight(t, r.example, places, true)
				continue
			}
			for _, to := range []int{0, 1, -2, 7, -3, places, math.MaxInt, math.MinInt} {
				if to != -1 {
					wantRight(t, with(r.example, 'P', to), places, false)
				}
			}
			wantRight(t, with(r.example, 'P', -1), places, r.op == 21)
		}
	}
}

func TestRightWithoutAPlaceWithAnyNumberOfPlaces(t *testing.T) {
	for _, r := range rows {
		if strings.Contains(r.has, "P") {
			continue
		}
		for _, places := range []int{math.MinInt, -1, 0, 1, 64, behindTexts, math.MaxInt} {
			wantRight(t, r.example, places, true)
		}
	}
}

func TestPlacesOfTexts(t *testing.T) {
	for _, r := range rows {
		if !strings.Contains(r.has, "P") {
			continue
		}
		for _, to := range []int{0, 1, 9, 10, 63, 64, 1 << 16, behindTexts - 2, behindTexts - 1} {
			i := with(r.example, 'P', to)
			wantText(t, i, sayText(r, i))
		}
		for _, to := range []int{behindTexts, behindTexts + 1, 1<<31 - 1, 1 << 31, 1 << 32, math.MaxInt, -2, -behindTexts, math.MinInt} {
			wantNoText(t, with(r.example, 'P', to))
		}
		// Of one that is right with more places than texts have, there is no text either.
		wantRight(t, with(r.example, 'P', behindTexts), behindTexts+1, true)
	}
}

func TestElseStandsJustWhereToIsNotMinus1(t *testing.T) {
	for k, word := range []string{"eq", "ne"} {
		i := api.Inst{Op: api.Await, D: 7, A: 7, S: 6, T: 5, K: uint32(k), To: -1}
		text := "await r7 7 r6 " + word + " r5"
		wantText(t, i, text)
		for to := range 200 {
			i.To = to
			wantText(t, i, fmt.Sprint(text, " else ", to))
		}
		wantNoInst(t, text+" else -1")
	}
}

func TestNoOtherToIsBelow0(t *testing.T) {
	for _, r := range rows {
		for _, to := range []int{-1, -2, -3, -64, -1 << 31, -1 << 32, math.MinInt} {
			if r.op != 21 || to != -1 {
				wantWrong(t, with(r.example, 'P', to))
			}
		}
	}
}

func TestWhatAnOpDoesNotHaveIsZero(t *testing.T) {
	for _, r := range rows {
		for _, letter := range letters {
			if strings.ContainsRune(r.has, letter) {
				continue
			}
			for _, v := range append([]int{1, 2, 3, 4, 7, 8, -1}, farNumbers...) {
				if i := with(r.example, letter, v); i != r.example {
					wantWrong(t, i)
				}
			}
		}
	}
}

// Two fields that aren't had, whose sum or whose bits together would be nothing, are seen too.
func TestTwoThingsThatAnOpDoesNotHave(t *testing.T) {
	for _, r := range rows {
		for _, a := range letters {
			for _, b := range letters {
				if a != b && !strings.ContainsRune(r.has, a) && !strings.ContainsRune(r.has, b) {
					wantWrong(t, with(with(r.example, a, 1), b, -1))
				}
			}
		}
	}
}

func TestParseRefusesWhatIsNoText(t *testing.T) {
	for _, s := range []string{
		"", " ", "  ", "\n", "\t", "\x00", "r1", "1", "else", "else 7", "eq", "nop", "nop r1", "constant r1 1", "con r1 1", "D", "const rD K", "lock:",
		"const", "const ", "const r1", "const r1 ", "const 1", "const r1 2 3", "const 1 r1", "const r1 r2", "const r1 2 ", " const r1 2", "const  r1 2", "const r1  2",
		"CONST r1 2", "Const r1 2", "const R1 2", "const r1 two", "const r1 0x2", "const r1 2_0", "const r1 1e3", "const r1 2.0", "const r1 2,", "const r1,2", "constr1 2", "const r12",
		"const r1 00", "const r1 01", "const r1 +1", "const r1 -1", "const r1 -0", "const r1 +0", "const r1 4294967296", "const r1 4294967297", "const r1 8589934591", "const r1 18446744073709551615", "const r1 18446744073709551616", "const r1 9223372036854775807", "const r1 -4294967295", "const r1 99999999999999999999999999",
		"const r8 1", "const r9 1", "const r07 1", "const r00 1", "const r10 1", "const r-1 1", "const r+1 1", "const r 1", "const rr1 1", "const r1r 1", "const r4294967297 1", "const r1 eq", "const r1 ne",
		"move r1", "move r1 2", "move 1 r2", "move r1 r2 r3", "move r1 r8", "move r1 r2 0", "move r1 r02",
		"addk r1 r2", "addk r1 2 r3", "addk r1 r2 r3", "addk r1 r2 4294967296", "andk r1 r2 -1", "andk r1 r2 5 5",
		"shl r1 r2 32", "shr r1 r2 32", "shl r1 r2 031", "shl r1 r2 4294967327", "shl r1 r2 -1", "shr r1 r2 r3", "shr r1 r2",
		"or r1 r2", "or r1 r2 3", "or r1 r2 r3 r4", "or r1 r2 r8",
		"beq r1 r2", "beq r1 r2 r3", "beq r1 r2 -1", "beq r1 r2 +1", "beq r1 r2 01", "beq r1 r2 1073741824", "beq r1 r2 else 5", "bne r1 5 r2", "bne r1 r2 2147483648", "bne r1 r2 4294967296",
		"jump", "jump ", "jump -1", "jump r1", "jump 1 2", "jump 01", "jump 1073741824", "jump 1073741825", "jump 4294967296", "jump 18446744073709551616", "jump lock", "jump else 1",
		"self", "self 1", "self r1 r2", "self r8", "take", "take 1", "take r1 r2", "take r1 ", " take r1", "Take r1", "free", "free 6", "free r8", "free r6 0",
		"mark", "mark 0", "mark 5", "mark 01", "mark r1", "mark -1", "mark 1 1", "mark enq", "mark 4294967297", "done", "done 4", "done 00", "done r1", "done -1", "done 4294967296", "done 0 0",
		"load r1 8 r2", "load r1 r2 r3", "load r1 2", "load r1 02 r3", "load r1 -1 r3", "load 1 2 r3", "load r1 2 3", "load r1 2 r3 r4", "load r1 +2 r3",
		"store r1 r2 r3", "store 8 r2 r3", "store 1 r2", "store 1 r2 3", "store 1 r2 r3 r4", "swap r1 2 r3", "swap r1 2 r3 4", "swap r1 8 r3 r4", "swap r1 2 r3 r4 r5",
		"cas r1 2 r3 r4", "cas r1 2 r3 r4 r5 r6", "cas r1 2 r3 r4 5", "cas r1 8 r3 r4 r5", "cas r1 2 r3 r4 r8", "fadd r1 2 r3", "fadd r1 2 r3 r4", "fadd r1 2 r3 4294967296", "fadd r1 2 r3 -1", "fadd r1 2 r3 4 5",
		"await", "await r1", "await r1 0 r2", "await r1 0 r2 eq", "await r1 0 r2 eq 3", "await r1 0 r2 eq r8", "await r1 0 r2 gt r3", "await r1 0 r2 0 r3", "await r1 0 r2 1 r3", "await r1 0 r2 r0 r3", "await r1 0 r2 EQ r3", "await r1 0 r2 equal r3", "await r1 0 r2 r3", "await r1 0 r2 r3 eq",
		"await r1 0 r2 eq r3 else", "await r1 0 r2 eq r3 else ", "await r1 0 r2 eq r3 5", "await r1 0 r2 eq r3 or 5", "await r1 0 r2 eq r3 or else 5", "await r1 0 r2 eq r3 else else 5", "await r1 0 r2 eq r3 else 5 5", "await r1 0 r2 eq r3 else 5 ", "await r1 0 r2 eq r3 else 5 else 6", "await r1 0 r2 eq r3 else  5", "await r1 0 r2 eq r3  else 5", "await r1 0 r2 eq r3 else r5", "await r1 0 r2 eq r3 else -1", "await r1 0 r2 eq r3 else -2", "await r1 0 r2 eq r3 else 05", "await r1 0 r2 eq r3 else +5", "await r1 0 r2 eq r3 else eq", "await r1 0 r2 eq r3 else 1073741824", "await r1 0 r2 eq r3 else 4294967295", "await r1 0 r2 eq r3 else 18446744073709551615", "await r1 0 r2 eq r3 Else 5", "await r1 0 r2 eq else 5", "await r1 8 r2 eq r3", "await r1 0 r2 eq else r3", "else await r1 0 r2 eq r3",
		"const r1 \xff", "\xffconst r1 1", "const\xff r1 1", "const r\xc3\x28 1", "\xc0\x80", "const\u00a0r1 1", "const r1 \u0661", "const r\uff11 1", "\ufeffconst r1 1", "const r1 1\x00", "\x00const r1 1",
	} {
		wantNoInst(t, s)
		if i, ok := model(s); ok {
			t.Errorf("the test's own table says of %q: %+v", s, i)
		}
	}
}

func TestParseRefusesOtherWhiteSpace(t *testing.T) {
	for _, r := range rows {
		for _, s := range []string{r.text, strings.Replace(r.text, " else 7", "", 1)} {
			for _, space := range []string{" ", "  ", "\t", "\n", "\r", "\r\n", "\v", "\f", "\u0085", "\u00a0", "\u2003", "\u3000", "\x00"} {
				wantNoInst(t, space+s)
				wantNoInst(t, s+space)
				for n := range s {
					if s[n] == ' ' {
						wantNoInst(t, s[:n]+" "+space+s[n+1:])
						wantNoInst(t, s[:n]+space+" "+s[n+1:])
					}
					if s[n] == ' ' && space != " " {
						wantNoInst(t, s[:n]+space+s[n+1:])
					}
				}
			}
		}
	}
}

func TestParseRefusesCapitals(t *testing.T) {
	for _, r := range rows {
		for n := range r.text {
			if s := r.text[:n] + strings.ToUpper(r.text[n:n+1]) + r.text[n+1:]; s != r.text {
				wantNoInst(t, s)
			}
		}
		wantNoInst(t, strings.ToUpper(r.text))
	}
}

func TestParseOfAWordTooFewOrTooMany(t *testing.T) {
	for _, r := range rows {
		words := strings.Split(r.text, " ")
		for n := range words {
			wantParse(t, strings.Join(append(append([]string{}, words[:n]...), words[n+1:]...), " "))
			wantParse(t, strings.Join(words[:n], " "))
			for _, more := range append([]string{"", "0", "1", "7", "r0", "r7", "eq", "ne", "else"}, words...) {
				wantParse(t, strings.Join(append(append(append([]string{}, words[:n]...), more), words[n:]...), " "))
				wantNoInst(t, r.text+" "+more)
				wantNoInst(t, r.text+strings.Repeat(" "+more, 20))
			}
		}
	}
}

func TestParseOfEachWordInEachPlace(t *testing.T) {
	others := []string{"", "0", "1", "2", "3", "4", "5", "7", "8", "31", "32", "00", "07", "-1", "+1", "-0", "1073741823", "1073741824", "4294967295", "4294967296", "18446744073709551617", "r", "r0", "r7", "r8", "r07", "r00", "r-1", "r+1", "R1", "rr1", "eq", "ne", "else", "Eq", "lt", "x", "D", "\xff"}
	for _, r := range rows {
		others = append(others, r.text[:strings.Index(r.text, " ")])
	}
	for _, r := range rows {
		for _, text := range []string{r.text, strings.Replace(r.text, " else 7", "", 1)} {
			words := strings.Split(text, " ")
			for n := range words {
				kept := words[n]
				for _, word := range others {
					words[n] = word
					wantParse(t, strings.Join(words, " "))
				}
				words[n] = kept
			}
		}
	}
}

func TestParseOfTextsWithOneByteChanged(t *testing.T) {
	for _, r := range rows {
		s := r.text
		for n := range len(s) + 1 {
			for b := range 256 {
				wantParse(t, s[:n]+string([]byte{byte(b)})+s[n:])
				if n < len(s) {
					wantParse(t, s[:n]+string([]byte{byte(b)})+s[n+1:])
				}
			}
			if n < len(s) {
				wantParse(t, s[:n]+s[n+1:])
			}
			wantParse(t, s[:n])
			wantParse(t, s[n:])
		}
	}
}

func TestLongTextsAreRefused(t *testing.T) {
	const many = 1 << 20
	for _, s := range []string{strings.Repeat(" ", many), strings.Repeat("r", many), strings.Repeat("take r1 ", many/8), "jump " + strings.Repeat("9", many), "jump " + strings.Repeat("0", many) + "1", "take r" + strings.Repeat("1", many), "take r1" + strings.Repeat(" ", many), "await r1 0 r2 eq r3" + strings.Repeat(" else 5", many/7)} {
		if i, e := Parse(s); i != (api.Inst{}) || e != api.ErrForm {
			t.Errorf("Parse of %q and so on = %+v, error %d", s[:20], i, e)
		}
	}
}

func TestAskingTwiceTellsTheSame(t *testing.T) {
	for range 3 {
		for _, r := range rows {
			wantNoInst(t, r.text+" ")
			wantText(t, r.example, r.text)
			wantNoText(t, api.Inst{Op: 14})
		}
	}
}

// P6.2

// values are what one letter's value is gone through by, in a row: all of them, or both ends and some between.
func values(r row, letter rune) []int {
	switch letter {
	case 'K':
		if r.k1 == greatestWord {
			return []int{0, 1, 9, 10, 31, 32, 1<<31 - 1, 1 << 31, greatestWord - 1, greatestWord}
		}
	case 'P':
		l := []int{0, 1, 2, 10, 63, 64, behindTexts - 1}
		if r.op == 21 {
			l = append(l, -1)
		}
		return l
	default:
		return []int{0, 1, 2, 3, 4, 5, 6, 7}
	}
	var l []int
	for k := r.k0; k <= r.k1; k++ {
		l = append(l, int(k))
	}
	return l
}

// each goes through all instructions of a row by these values.
func each(r row, do func(api.Inst)) {
	var on func(i api.Inst, has string)
	on = func(i api.Inst, has string) {
		if has == "" {
			do(i)
			return
		}
		for _, v := range values(r, rune(has[0])) {
			on(with(i, rune(has[0]), v), has[1:])
		}
	}
	on(api.Inst{Op: r.op}, r.has)
}

func TestTextAndParseAreEachOthersOpposite(t *testing.T) {
	seen := map[string]api.Inst{}
	for _, r := range rows {
		each(r, func(i api.Inst) {
			s, e := Text(i)
			if e != api.OK || s != sayText(r, i) || !Right(i, behindTexts) {
				t.Fatalf("Text(%+v) = %q, error %d, want %q", i, s, e, sayText(r, i))
			}
			if other, ok := seen[s]; ok {
				t.Fatalf("%+v and %+v have one text, %q", i, other, s)
			}
			seen[s] = i
			if p, e := Parse(s); p != i || e != api.OK {
				t.Fatalf("Parse(%q) = %+v, error %d, want %+v", s, p, e, i)
			}
		})
	}
	if len(seen) < 100000 {
		t.Errorf("only %d instructions were gone through", len(seen))
	}
}

func TestTextOfParseIsTheText(t *testing.T) {
	words := []string{"0", "5", "07", "8", "4294967295", "r0", "r3", "r7", "r8", "eq", "ne", "else"}
	found := 0
	var on func(s string, more int)
	on = func(s string, more int) {
		i, e := Parse(s)
		want, ok := model(s)
		if i != want || (e == api.OK) != ok || !ok && e != api.ErrForm {
			t.Fatalf("Parse(%q) = %+v, error %d, want %+v, %v", s, i, e, want, ok)
		}
		if ok {
			found++
			if x, e := Text(i); x != s || e != api.OK {
				t.Fatalf("Text(%+v) = %q, error %d, want %q", i, x, e, s)
			}
		}
		if more == 0 {
			return
		}
		for _, word := range words {
			on(s+" "+word, more-1)
		}
	}
	for _, r := range rows {
		on(r.text[:strings.Index(r.text, " ")], 3)
	}
	if found < 100 {
		t.Errorf("only %d texts were found", found)
	}
}
