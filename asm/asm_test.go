package asm

import (
	"fmt"
	"math"
	"regexp"
	"slices"
	"strconv"
	"strings"
	"testing"

	"ropeline/api"
	"ropeline/inst"
)

const (
	nameForm  = `([a-z][a-z0-9]{0,15})`
	reg       = ` r([0-7])`
	shortName = "a"
	name16    = "abcdefghij012345"
	ticket    = "lock:\nfadd r1 0 r0 1\nmark 1\nawait r2 1 r0 eq r1\nmark 2\ndone 1\nunlock:\naddk r1 r1 1\nstore 1 r0 r1\nmark 4\ndone 2\n"
)

var (
	labelLine = regexp.MustCompile(`\A` + nameForm + `:\z`)
	jumpLine  = regexp.MustCompile(`\Ajump ` + nameForm + `\z`)
	ifLine    = regexp.MustCompile(`\A(beq|bne)` + reg + reg + ` ` + nameForm + `\z`)
	elseLine  = regexp.MustCompile(`\Aawait` + reg + ` ([0-7])` + reg + ` (eq|ne)` + reg + ` else ` + nameForm + `\z`)
)

// opLines are a line of each Op that has no place, with what it is.
var opLines = []struct {
	line string
	i    api.Inst
}{
	{"const r3 77", api.Inst{Op: 1, D: 3, K: 77}},
	{"const r7 4294967295", api.Inst{Op: 1, D: 7, K: 1<<32 - 1}},
	{"move r1 r2", api.Inst{Op: 2, D: 1, S: 2}},
	{"addk r1 r2 300", api.Inst{Op: 3, D: 1, S: 2, K: 300}},
	{"andk r2 r1 4095", api.Inst{Op: 4, D: 2, S: 1, K: 4095}},
	{"shl r4 r5 12", api.Inst{Op: 5, D: 4, S: 5, K: 12}},
	{"shr r5 r4 0", api.Inst{Op: 6, D: 5, S: 4}},
	{"or r1 r2 r3", api.Inst{Op: 7, D: 1, S: 2, T: 3}},
	{"self r2", api.Inst{Op: 11, D: 2}},
	{"mark 2", api.Inst{Op: 12, K: 2}},
	{"done 0", api.Inst{Op: 13}},
	{"load r1 2 r3", api.Inst{Op: 16, D: 1, A: 2, S: 3}},
	{"store 1 r2 r3", api.Inst{Op: 17, A: 1, S: 2, T: 3}},
	{"swap r1 2 r3 r4", api.Inst{Op: 18, D: 1, A: 2, S: 3, T: 4}},
	{"cas r1 2 r3 r4 r5", api.Inst{Op: 19, D: 1, A: 2, S: 3, T: 4, U: 5}},
	{"fadd r1 2 r3 1", api.Inst{Op: 20, D: 1, A: 2, S: 3, K: 1}},
	{"await r2 1 r0 eq r1", api.Inst{Op: 21, D: 2, A: 1, T: 1, To: -1}},
	{"await r0 7 r6 ne r5", api.Inst{Op: 21, A: 7, S: 6, T: 5, K: 1, To: -1}},
	{"take r6", api.Inst{Op: 22, D: 6}},
	{"free r6", api.Inst{Op: 23, S: 6}},
}

// placeLines are lines, up to the name, of each Op that has a place.
var placeLines = []struct {
	head string
	i    api.Inst
}{
	{"beq r1 r2 ", api.Inst{Op: 8, S: 1, T: 2}},
	{"bne r6 r5 ", api.Inst{Op: 9, S: 6, T: 5}},
	{"jump ", api.Inst{Op: 10}},
	{"await r2 1 r0 eq r1 else ", api.Inst{Op: 21, D: 2, A: 1, T: 1}},
	{"await r0 7 r6 ne r5 else ", api.Inst{Op: 21, A: 7, S: 6, T: 5, K: 1}},
}

// far are numbers that are places of no program; cut down to fewer bits, many of them would be.
var far = []int{-1, -2, -64, 64, 65, 256, 1 << 30, 1 << 31, -1 << 31, 1 << 32, 1<<32 + 1, -1 << 32, 1 - 1<<32, math.MaxInt, math.MinInt}

// model is what the chapter says of a text, line by line, by patterns.
func model(text string) (api.Code, int, api.Errno) {
	var c api.Code
	var goals []string
	var from []int
	labels := map[string]int{}
	for number := 1; text != ""; number++ {
		line, rest, ended := strings.Cut(text, "\n")
		label := labelLine.FindStringSubmatch(line)
		i, goal, ok := modelInst(line)
		switch {
		case !ended || label == nil && !ok:
			return api.Code{}, number, api.ErrForm
		case label != nil:
			if _, ok := labels[label[1]]; ok {
				return api.Code{}, number, api.ErrBusy
			}
			labels[label[1]] = len(c.L)
		case len(c.L) == 64:
			return api.Code{}, number, api.ErrBig
		default:
			c.L, goals, from = append(c.L, i), append(goals, goal), append(from, number)
		}
		text = rest
	}
	for n, goal := range goals {
		to, ok := labels[goal]
		if goal != "" && (!ok || to >= len(c.L)) {
			return api.Code{}, from[n], api.ErrNone
		}
		if goal != "" {
			c.L[n].To = to
		}
	}
	var locks, unlocks bool
	c.Lock, locks = labels["lock"]
	c.Unlock, unlocks = labels["unlock"]
	if !locks || !unlocks || c.Lock >= len(c.L) || c.Unlock >= len(c.L) {
		return api.Code{}, 0, api.ErrNone
	}
	return c, 0, api.OK
}

func modelInst(line string) (api.Inst, string, bool) {
	if m := jumpLine.FindStringSubmatch(line); m != nil {
		return api.Inst{Op: 10}, m[1], true
	}
	if m := ifLine.FindStringSubmatch(line); m != nil {
		return api.Inst{Op: map[string]int{"beq": 8, "bne": 9}[m[1]], S: digit(m[2]), T: digit(m[3])}, m[4], true
	}
	if m := elseLine.FindStringSubmatch(line); m != nil {
		return api.Inst{Op: 21, D: digit(m[1]), A: digit(m[2]), S: digit(m[3]), K: map[string]uint32{"eq": 0, "ne": 1}[m[4]], T: digit(m[5])}, m[6], true
	}
	i, e := inst.Parse(line)
	if e != api.OK || i.Op >= 8 && i.Op <= 10 || i.Op == 21 && i.To >= 0 {
		return api.Inst{}, "", false
	}
	return i, "", true
}

func digit(s string) int {
	n, _ := strconv.Atoi(s)
	return n
}

// modelText is a right program's own text, as the chapter says it.
func modelText(c api.Code) string {
	has := func(i api.Inst) bool { return i.Op >= 8 && i.Op <= 10 || i.Op == 21 && i.To != -1 }
	names := make([]string, len(c.L))
	labels := make([]string, len(c.L))
	for _, i := range c.L {
		if has(i) {
			labels[i.To] = fmt.Sprintf("l%d:\n", i.To)
		}
	}
	for p := range names {
		names[p] = fmt.Sprintf("l%d", p)
	}
	names[c.Unlock], labels[c.Unlock] = "unlock", "unlock:\n"
	names[c.Lock], labels[c.Lock] = "lock", "lock:\n"
	if c.Lock == c.Unlock {
		labels[c.Lock] = "lock:\nunlock:\n"
	}
	text := ""
	for p, i := range c.L {
		line, _ := inst.Text(i)
		if has(i) {
			line = strings.TrimSuffix(line, strconv.Itoa(i.To)) + names[i.To]
		}
		text += labels[p] + line + "\n"
	}
	return text
}

func alike(a, b api.Code) bool {
	if a.Lock != b.Lock || a.Unlock != b.Unlock || len(a.L) != len(b.L) {
		return false
	}
	for n := range a.L {
		if a.L[n] != b.L[n] {
			return false
		}
	}
	return true
}

func short(s string) string { return s[:min(len(s), 300)] }

func wantCode(t *testing.T, text string, want api.Code) {
	t.Helper()
	c, line, e := Assemble(text)
	if e != api.OK || line != 0 || !alike(c, want) {
		t.Errorf("Assemble(%q) = %+v, line %d, error %d, want %+v", short(text), c, line, e, want)
	}
	if !Right(c) {
		t.Errorf("Assemble(%q) = %+v, which isn't right", short(text), c)
	}
}

func wantError(t *testing.T, text string, line int, e api.Errno) {
	t.Helper()
	c, gotLine, got := Assemble(text)
	if got != e || gotLine != line || len(c.L) != 0 || c.Lock != 0 || c.Unlock != 0 {
		t.Errorf("Assemble(%q) = %+v, line %d, error %d, want none, line %d, error %d", short(text), c, gotLine, got, line, e)
	}
}

// wantModel asks for what the patterns say of a text.
func wantModel(t *testing.T, text string) api.Errno {
	t.Helper()
	c, line, e := model(text)
	if e != api.OK {
		wantError(t, text, line, e)
		return e
	}
	wantCode(t, text, c)
	return e
}

// wantText asks that a program is right, that this is its own text, and that the text is the program's.
func wantText(t *testing.T, c api.Code, want string) {
	t.Helper()
	if !Right(c) {
		t.Errorf("%+v isn't right", c)
	}
	if s, e := Print(c); s != want || e != api.OK {
		t.Errorf("Print(%+v) = %q, error %d, want %q", c, s, e, want)
	}
	wantCode(t, want, c)
}

func wantWrong(t *testing.T, c api.Code) {
	t.Helper()
	if Right(c) {
		t.Errorf("%+v is right", c)
	}
	if s, e := Print(c); s != "" || e != api.ErrArg {
		t.Errorf("Print(%+v) = %q, error %d, want no text, error %d", c, s, e, api.ErrArg)
	}
}

// dones is as many instructions, each unlike its neighbours.
func dones(n int) []api.Inst {
	l := make([]api.Inst, n)
	for k := range l {
		l[k] = api.Inst{Op: api.Done, K: uint32(k % 4)}
	}
	return l
}

func doneLines(n int) string {
	return strings.Repeat("done 0\ndone 1\ndone 2\ndone 3\n", n/4+1)[:n*len("done 0\n")]
}

// P7.1: programs of texts

func TestExampleOfTheChapter(t *testing.T) {
	wantText(t, api.Code{L: []api.Inst{{Op: api.Done, K: 1}, {Op: api.Jump, To: 0}}, Lock: 0, Unlock: 1}, "lock:\ndone 1\nunlock:\njump lock\n")
}

func TestTicketLock(t *testing.T) {
	wantText(t, api.Code{L: []api.Inst{
		{Op: 20, D: 1, K: 1}, {Op: 12, K: 1}, {Op: 21, D: 2, A: 1, T: 1, To: -1}, {Op: 12, K: 2}, {Op: 13, K: 1},
		{Op: 3, D: 1, S: 1, K: 1}, {Op: 17, A: 1, T: 1}, {Op: 12, K: 4}, {Op: 13, K: 2},
	}, Lock: 0, Unlock: 5}, ticket)
}

func TestLineOfEachOp(t *testing.T) {
	text := "lock:\nunlock:\n"
	var c api.Code
	for _, o := range opLines {
		wantCode(t, "lock:\nunlock:\n"+o.line+"\n", api.Code{L: []api.Inst{o.i}})
		text += o.line + "\n"
		c.L = append(c.L, o.i)
	}
	wantText(t, c, text)
}

func TestPlacesByNames(t *testing.T) {
	for _, p := range placeLines {
		for _, goal := range []string{"lock", "unlock", "x", "there", "r1", "r7", "l0", "l63", "else", "eq", "jump", "done", name16, shortName} {
			label := goal + ":\n"
			if goal == "lock" || goal == "unlock" {
				label = ""
			}
			ahead, behind := p.i, p.i
			ahead.To, behind.To = 0, 2
			if goal == "unlock" {
				ahead.To, behind.To = 2, 0
			}
			wantCode(t, "lock:\n"+label+"done 1\n"+p.head+goal+"\nunlock:\ndone 2\n", api.Code{L: []api.Inst{{Op: 13, K: 1}, ahead, {Op: 13, K: 2}}, Unlock: 2})
			wantCode(t, "unlock:\ndone 1\n"+p.head+goal+"\nlock:\n"+label+"done 2\n", api.Code{L: []api.Inst{{Op: 13, K: 1}, behind, {Op: 13, K: 2}}, Lock: 2})
		}
		own := p.i
		own.To = 1
		wantCode(t, "lock:\nunlock:\ndone 1\nself:\n"+p.head+"self\n", api.Code{L: []api.Inst{{Op: 13, K: 1}, own}})
	}
}

func TestAwaitWithoutElseHasNoPlace(t *testing.T) {
	c := api.Code{L: []api.Inst{{Op: api.Await, D: 1, A: 2, S: 3, T: 4, To: -1}, {Op: api.Await, D: 1, A: 2, S: 3, T: 4, K: 1, To: -1}}, Unlock: 1}
	wantText(t, c, "lock:\nawait r1 2 r3 eq r4\nunlock:\nawait r1 2 r3 ne r4\n")
	c.L[1].To = 0
	wantText(t, c, "lock:\nawait r1 2 r3 eq r4\nunlock:\nawait r1 2 r3 ne r4 else lock\n")
	c.L[0].To, c.L[1].To = 1, -1
	wantText(t, c, "lock:\nawait r1 2 r3 eq r4 else unlock\nunlock:\nawait r1 2 r3 ne r4\n")
}

func TestLabelsAnywhere(t *testing.T) {
	l := []api.Inst{{Op: 10, To: 1}, {Op: 13, K: 1}, {Op: 10, To: 1}}
	for _, text := range []string{
		"lock:\na:\njump b\nb:\nunlock:\ndone 1\njump b\n",
		"lock:\njump b\nunlock:\nb:\nc:\nd:\nl0:\ndone 1\njump d\n",
		"never:\nlock:\njump unlock\nunlock:\ndone 1\nneither:\njump unlock\n",
		"lock:\njump b\nb:\nb1:\nb11:\nunlock:\ndone 1\njump b11\nbehind:\nmore:\n",
		"l2:\nl1:\nlock:\njump l0\nl0:\nunlock:\ndone 1\njump l0\nlast:\n",
		"lock:\njump unlock\ndone:\nunlock:\ndone 1\njump done\n",
	} {
		wantCode(t, text, api.Code{L: l, Lock: 0, Unlock: 1})
	}
}

// Labels that nothing goes to may be as many as one likes, with nothing behind them.
func TestManyLabels(t *testing.T) {
	var text strings.Builder
	for n := range 5000 {
		fmt.Fprintf(&text, "a%d:\n", n)
	}
	wantCode(t, text.String()+"lock:\nunlock:\njump a4999\n", api.Code{L: []api.Inst{{Op: 10}}})
	wantCode(t, "lock:\nunlock:\njump lock\n"+text.String(), api.Code{L: []api.Inst{{Op: 10}}})
	wantError(t, "lock:\nunlock:\njump lock\n"+text.String()+"a0:\n", 5004, api.ErrBusy)
	wantError(t, "lock:\nunlock:\njump a0\n"+text.String(), 3, api.ErrNone)
}

func TestFrom1To64Instructions(t *testing.T) {
	for n := 1; n <= 64; n++ {
		wantCode(t, "lock:\nunlock:\n"+doneLines(n), api.Code{L: dones(n)})
		wantText(t, api.Code{L: dones(n), Unlock: n - 1}, modelText(api.Code{L: dones(n), Unlock: n - 1}))
		wantCode(t, doneLines(n-1)+"unlock:\nlock:\njump lock\n", api.Code{L: append(dones(n-1), api.Inst{Op: 10, To: n - 1}), Lock: n - 1, Unlock: n - 1})
	}
	for _, n := range []int{65, 66, 100, 128, 1 << 16} {
		wantError(t, "lock:\nunlock:\n"+doneLines(n), 67, api.ErrBig)
		wantError(t, doneLines(n), 65, api.ErrBig)
		wantWrong(t, api.Code{L: dones(n)})
	}
	wantWrong(t, api.Code{})
	wantWrong(t, api.Code{L: []api.Inst{}})
}

func TestLabelsAreNoInstructions(t *testing.T) {
	text, last := "", ""
	for n := range 64 {
		last = fmt.Sprintf("at%d", n)
		text += last + ":\n" + fmt.Sprintf("and%d:\n", n) + "done 1\n"
	}
	c := api.Code{L: slices.Repeat([]api.Inst{{Op: 13, K: 1}}, 64)}
	wantCode(t, "lock:\nunlock:\n"+text, c)
	wantCode(t, "lock:\nunlock:\n"+text+"behind:\n", c)
	wantError(t, "lock:\nunlock:\n"+text+"behind:\ndone 1\n", 2+3*64+2, api.ErrBig)
	c.L[0] = api.Inst{Op: 10, To: 63}
	wantCode(t, "lock:\nunlock:\n"+strings.Replace(text, "done 1", "jump "+last, 1), c)
}

func TestLockAndUnlockAtEachPlace(t *testing.T) {
	for _, n := range []int{1, 2, 3, 64} {
		for lock := range n {
			for unlock := range n {
				c := api.Code{L: dones(n), Lock: lock, Unlock: unlock}
				wantText(t, c, modelText(c))
				lines := strings.SplitAfter(doneLines(n), "\n")
				lines[unlock] = "unlock:\n" + lines[unlock]
				lines[lock] = "lock:\n" + lines[lock]
				wantCode(t, strings.Join(lines, ""), c)
			}
		}
	}
	wantCode(t, "unlock:\nlock:\ndone 1\n", api.Code{L: []api.Inst{{Op: 13, K: 1}}})
}

func TestNamesOf1To16Bytes(t *testing.T) {
	for n := 1; n <= 40; n++ {
		for _, name := range []string{strings.Repeat("a", n), strings.Repeat("z", n), "a" + strings.Repeat("0", n-1), "z" + strings.Repeat("9", n-1)} {
			label, jump := name+":\nlock:\nunlock:\ndone 1\n", "lock:\nunlock:\njump "+name+"\n"
			if n > 16 {
				wantError(t, label, 1, api.ErrForm)
				wantError(t, jump, 3, api.ErrForm)
				continue
			}
			wantCode(t, label, api.Code{L: []api.Inst{{Op: 13, K: 1}}})
			wantError(t, jump, 3, api.ErrNone)
			wantCode(t, name+":\n"+jump, api.Code{L: []api.Inst{{Op: 10}}})
		}
	}
}

// Sixteen bytes, not signs: so many others fit in no name, whatever they are.
func TestNamesAreBytesOfLettersAndDigits(t *testing.T) {
	for _, ahead := range []string{"", "a", "a9", name16[:15]} {
		for b := range 256 {
			for _, behind := range []string{"", "b"} {
				name := ahead + string([]byte{byte(b)}) + behind
				text := name + ":\nlock:\nunlock:\njump " + name + "\n"
				letter, digit := b >= 'a' && b <= 'z', b >= '0' && b <= '9'
				if len(name) <= 16 && (letter || digit && ahead != "") {
					wantCode(t, text, api.Code{L: []api.Inst{{Op: 10}}})
					continue
				}
				wantModel(t, text)
				wantModel(t, "lock:\nunlock:\njump "+name+"\n")
				if b != ':' || ahead == "" {
					wantError(t, text, 1, api.ErrForm)
				}
			}
		}
	}
	for _, name := range []string{"", " ", "A", "aB", "a_b", "a-b", "a.b", "_a", "$a", "a'", "ä", "é", "aé", "ß", "ａ", "a１", "a٣", "٣", "aª", "a²", "𝐚", "a\u0301", "\u00a0", "a\u00a0", "\ufeffa", "a\ufffd", "\xff", "a\xff", "\xc3", "a\xc3\x28", "\xed\xa0\x80", "a\x00", "\x00a", "a\r", "a\t", "a ", " a", "a b", "a:", "::", "0", "9", "0a", "9z", "1a1"} {
		wantError(t, name+":\nlock:\nunlock:\ndone 1\n", 1, api.ErrForm)
		wantError(t, "lock:\nunlock:\njump "+name+"\n", 3, api.ErrForm)
		wantError(t, "lock:\nunlock:\nawait r1 0 r2 eq r3 else "+name+"\n", 3, api.ErrForm)
	}
}

// P7.1: wrong texts

func TestEmptyText(t *testing.T) {
	wantError(t, "", 0, api.ErrNone)
}

func TestLinesWithoutTheirEnd(t *testing.T) {
	for n := 1; n < len(ticket); n++ {
		if ticket[n-1] != '\n' {
			wantError(t, ticket[:n], strings.Count(ticket[:n], "\n")+1, api.ErrForm)
		} else {
			wantModel(t, ticket[:n])
		}
	}
	wantError(t, "lock:", 1, api.ErrForm)
	wantError(t, "lock:\nlock:", 2, api.ErrForm) // ahead of ErrBusy
	wantError(t, doneLines(64)+"done 1", 65, api.ErrForm)
	wantError(t, "x", 1, api.ErrForm)
	wantError(t, " ", 1, api.ErrForm)
	wantError(t, ticket+" ", 12, api.ErrForm)
	wantError(t, ticket+"\x00", 12, api.ErrForm)
}

func TestLinesThatAreNeither(t *testing.T) {
	lines := []string{
		"", " ", "  ", "\t", "\r", ":", "::", " :", "\x00", "\xff", "#", "// no", "; no", "lock", "lock :", " lock:", "lock: ", "lock::", ":lock", "lock:done 1", "lock: done 1", "done 1 lock:", "lock:\r", "Lock:", "LOCK:", "lo ck:",
		"done", "done ", "done 9", "done 4", "done 01", "done 1 ", " done 1", "done  1", "done 1 1", "done 1:", "done 1\r", "Done 1", "done\t1", "done x", "done lock", "mark 0", "mark 5", "mark lock", "const r1", "const r1 lock", "const lock 1", "const r8 1", "const r1 4294967296", "const r1 x", "move r1 lock", "move r1 x", "addk r1 r2 x", "shl r1 r2 32", "or r1 r2 x", "self x", "take x", "free x", "nop",
		"load r1 x r2", "load x 0 r2", "load r1 8 r2", "store 0 r1 x", "swap r1 0 r2 x", "cas r1 0 r2 r3 x", "fadd r1 0 r2 x",
		"jump", "jump ", "jump 0", "jump 1", "jump 00", "jump -1", "jump 1073741823", "jump 1073741824", "jump  lock", "jump lock ", " jump lock", "jump lock lock", "jump lock:", "jump :lock", "jump Lock", "jump 0lock", "jump lock 0", "jump 0 lock", "jump lock\r", "jumplock", "Jump lock",
		"beq r1 r2", "beq r1 r2 0", "beq r1 r2 1", "beq r1 r2 -1", "beq r1 lock", "beq lock", "beq r1 r8 lock", "beq r1 r2 r3 lock", "beq r1 r2 lock 0", "beq r1 r2 else lock", "beq r1 2 lock", "beq x r2 lock", "bne r1 r2 0", "bne r1 x lock", "bne r1  r2 lock", "bne r1 r2  lock",
		"await r1 0 r2 eq r3 else 0", "await r1 0 r2 eq r3 else -1", "await r1 0 r2 eq r3 else", "await r1 0 r2 eq r3 else ", "await r1 0 r2 eq r3 lock", "await r1 0 r2 eq r3 0", "await r1 0 r2 eq lock", "await r1 0 r2 eq lock else lock", "await r1 x r2 eq r3 else lock", "await r1 0 r2 lock r3", "await r1 0 r2 eq else lock", "await r1 0 r2 eq r3 or lock", "await r1 0 r2 eq r3 else lock lock", "await r1 0 r2 eq r3 else  lock", "await r1 0 r2 eq r3  else lock", "await r1 0 r2 eq r3 else lock ", "await r1 8 r2 eq r3 else lock", "await r1 0 r2 ne r9 else lock", "await r1 0 r2 0 r3 else lock",
	}
	for _, line := range lines {
		wantError(t, line+"\n", 1, api.ErrForm)
		wantError(t, line, min(1, len(line)), map[bool]api.Errno{true: api.ErrNone, false: api.ErrForm}[line == ""])
		wantError(t, "lock:\nunlock:\n"+line+"\ndone 1\n", 3, api.ErrForm)
		wantError(t, "lock:\nunlock:\nx:\ndone 1\n"+line+"\n", 5, api.ErrForm)
		wantError(t, line+"\n"+line+"\n", 1, api.ErrForm)
		if _, _, e := model(line + "\n"); e != api.ErrForm {
			t.Errorf("the test's own patterns say of %q: error %d", line, e)
		}
	}
}

// Whatever stands in an instruction that has no place, a name is none of it.
func TestNamesWhereNumbersMustBe(t *testing.T) {
	for _, o := range opLines {
		words := strings.Split(o.line, " ")
		for n := 1; n < len(words); n++ {
			for _, word := range []string{"lock", "x", "l0", "number", name16} {
				changed := slices.Clone(words)
				changed[n] = word
				wantError(t, "lock:\nunlock:\nx:\nl0:\n"+strings.Join(changed, " ")+"\n", 5, api.ErrForm)
			}
		}
		for _, word := range []string{"lock", "x", "0", "else lock", "else"} {
			if o.i.Op != api.Await || word != "else lock" {
				wantError(t, "lock:\nunlock:\n"+o.line+" "+word+"\n", 3, api.ErrForm)
			}
		}
	}
}

func TestNumbersWhereNamesMustBe(t *testing.T) {
	for _, p := range placeLines {
		for _, number := range []string{"0", "1", "00", "-1", "2", "63", "64", "1073741823", "1073741824", "18446744073709551616"} {
			wantError(t, "lock:\nunlock:\n"+p.head+number+"\ndone 1\n", 3, api.ErrForm)
		}
	}
}

func TestBlanks(t *testing.T) {
	lines := []string{"lock:", "jump lock", "bne r1 r2 unlock", "await r1 0 r2 eq r3 else lock", "await r1 0 r2 ne r3", "done 1"}
	for _, line := range lines {
		for _, space := range []string{" ", "  ", "\t", "\r", "\v", "\f", "\u0085", "\u00a0", "\u2003", "\u3000", "\x00"} {
			wantError(t, "a:\n"+space+line+"\n", 2, api.ErrForm)
			wantError(t, "a:\n"+line+space+"\n", 2, api.ErrForm)
			for n := range line {
				if line[n] == ' ' {
					wantError(t, "a:\n"+line[:n]+" "+space+line[n+1:]+"\n", 2, api.ErrForm)
					wantError(t, "a:\n"+line[:n]+space+" "+line[n+1:]+"\n", 2, api.ErrForm)
				}
				if line[n] == ' ' && space != " " {
					wantError(t, "a:\n"+line[:n]+space+line[n+1:]+"\n", 2, api.ErrForm)
				}
			}
		}
	}
	wantError(t, strings.ReplaceAll(ticket, "\n", "\r\n"), 1, api.ErrForm)
	wantError(t, strings.ReplaceAll(ticket, "\n", "\r"), 1, api.ErrForm)
	wantError(t, strings.ReplaceAll(ticket, "\n", "\n\n"), 2, api.ErrForm)
	wantError(t, "\n"+ticket, 1, api.ErrForm)
	wantError(t, ticket+"\n", 12, api.ErrForm)
}

func TestLabelsThatStandAlready(t *testing.T) {
	wantError(t, "a:\na:\n", 2, api.ErrBusy)
	wantError(t, "lock:\nlock:\nunlock:\ndone 1\n", 2, api.ErrBusy)
	wantError(t, "lock:\nunlock:\ndone 1\nunlock:\ndone 1\n", 4, api.ErrBusy)
	wantError(t, ticket+"lock:\n", 12, api.ErrBusy)
	wantError(t, ticket+"x:\nx:\n", 13, api.ErrBusy)
	wantError(t, name16+":\ndone 1\n"+name16+":\n", 3, api.ErrBusy)
	// One that begins like another is another.
	wantCode(t, "a:\naa:\na0:\nlock:\nlocks:\nunlock:\nunlock1:\ndone 1\n"+name16+":\n"+name16[:15]+":\n", api.Code{L: []api.Inst{{Op: 13, K: 1}}})
}

func TestNamesOfNoLabel(t *testing.T) {
	for _, p := range placeLines {
		wantError(t, "lock:\nunlock:\ndone 1\n"+p.head+"x\n", 4, api.ErrNone)
		wantError(t, "lock:\nunlock:\ndone 1\n"+p.head+"x\nx:\n", 4, api.ErrNone)
		wantError(t, "lock:\nunlock:\n"+p.head+"loc\ndone 1\n", 3, api.ErrNone)
		wantError(t, "lock:\nunlock:\n"+p.head+"locks\ndone 1\n", 3, api.ErrNone)
		wantError(t, "lock:\nunlock:\n"+p.head+"l0\ndone 1\n", 3, api.ErrNone)
		wantError(t, "lock:\na:\nb:\n"+p.head+"unlock\ndone 1\nunlock:\n", 4, api.ErrNone)
		wantError(t, p.head+"lock\n", 1, api.ErrNone)
		// The line is the instruction's, wherever labels stand; and the first one's.
		wantError(t, "lock:\na:\nb:\nc:\nunlock:\ndone 1\n"+p.head+"c\nd:\n"+p.head+"x\n"+p.head+"y\n", 9, api.ErrNone)
		wantError(t, "lock:\nunlock:\n"+p.head+"y\n"+p.head+"x\nx:\n", 3, api.ErrNone)
		wantError(t, "lock:\nunlock:\n"+p.head+"x\n"+p.head+"y\nx:\n", 3, api.ErrNone)
		wantCode(t, "lock:\nunlock:\n"+p.head+"x\nx:\ndone 1\n", api.Code{L: []api.Inst{goingTo(p.i, 1), {Op: 13, K: 1}}})
	}
	full := doneLines(63)
	wantError(t, "lock:\nunlock:\n"+full+"jump x\nx:\n", 66, api.ErrNone)
	wantError(t, "lock:\nunlock:\njump x\n"+full+"x:\n", 3, api.ErrNone)
}

func goingTo(i api.Inst, to int) api.Inst {
	i.To = to
	return i
}

func TestNoLockOrNoUnlock(t *testing.T) {
	for _, text := range []string{
		"", "a:\n", "lock:\n", "unlock:\n", "lock:\nunlock:\n", "unlock:\nlock:\n", "done 1\n", "lock:\ndone 1\n", "unlock:\ndone 1\n", "lock:\ndone 1\nunlock:\n", "unlock:\ndone 1\nlock:\n", "done 1\nlock:\nunlock:\n", "done 1\nunlock:\nlock:\n", "locks:\nunlock:\ndone 1\n", "lock:\nunloc:\ndone 1\n",
		"a:\njump a\n", doneLines(64) + "lock:\nunlock:\n", "lock:\n" + doneLines(64) + "unlock:\n", "lock:\na:\njump lock\njump a\n",
	} {
		wantError(t, text, 0, api.ErrNone)
	}
}

func TestWhichErrorComesFirst(t *testing.T) {
	for _, x := range []struct {
		text string
		line int
		e    api.Errno
	}{
		{"a:\na:\n\n", 2, api.ErrBusy},
		{"a:\n\na:\n", 2, api.ErrForm},
		{"jump x\na:\na:\n", 3, api.ErrBusy},
		{"jump x\ndone\n", 2, api.ErrForm},
		{"jump x\nlock", 2, api.ErrForm},
		{"jump x\n", 1, api.ErrNone},
		{"jump x\njump y\n", 1, api.ErrNone},
		{"x:\njump x\njump y\nlock:\n", 3, api.ErrNone},
		{"jump x\n" + doneLines(64), 65, api.ErrBig},
		{doneLines(64) + "a:\na:\ndone 1\n", 66, api.ErrBusy},
		{doneLines(64) + "done 1\na:\na:\n", 65, api.ErrBig},
		{doneLines(64) + "done 9\n", 65, api.ErrForm},
		{doneLines(64) + "done 1\n\n", 65, api.ErrBig},
		{doneLines(64) + "\ndone 1\n", 65, api.ErrForm},
		{doneLines(64) + "jump x\n", 65, api.ErrBig},
		{doneLines(64) + "jump 0\n", 65, api.ErrForm},
		{doneLines(63) + "jump x\nlock:\n", 64, api.ErrNone},
		{"a:\na:", 2, api.ErrForm},
		{"lock:\nunlock:\nlock:\nunlock:\n", 3, api.ErrBusy},
		{"lock:\nlock \n", 2, api.ErrForm},
		{"lock:\nunlock:\ndone 1\njump x\njump 1\n", 5, api.ErrForm},
	} {
		wantError(t, x.text, x.line, x.e)
		if _, line, e := model(x.text); line != x.line || e != x.e {
			t.Errorf("the test's own patterns say of %q: line %d, error %d", x.text, line, e)
		}
	}
}

// someText is a text in which much of what may be stands.
const someText = "first:\nlock:\nfadd r1 0 r0 1\nagain:\nawait r2 1 r0 eq r1 else out\nx1:\nx:\ny:\nbeq r1 r2 again\nunlock:\njump x1\nout:\nawait r3 2 r1 ne r0\nbne r7 r0 y\ndone 0\nend:\n"

func TestTextsWithOneByteChanged(t *testing.T) {
	seen := map[api.Errno]int{}
	for n := range len(someText) + 1 {
		for b := range 256 {
			one := string([]byte{byte(b)})
			seen[wantModel(t, someText[:n]+one+someText[n:])]++
			if n < len(someText) {
				seen[wantModel(t, someText[:n]+one+someText[n+1:])]++
			}
		}
		if n < len(someText) {
			seen[wantModel(t, someText[:n]+someText[n+1:])]++
		}
		seen[wantModel(t, someText[:n])]++
		seen[wantModel(t, someText[n:])]++
	}
	for _, e := range []api.Errno{api.OK, api.ErrForm, api.ErrBusy, api.ErrNone} {
		if seen[e] < 3 {
			t.Errorf("only %d texts came to error %d", seen[e], e)
		}
	}
}

func TestTextsWithLinesMoved(t *testing.T) {
	lines := strings.SplitAfter(strings.TrimSuffix(someText, "\n"), "\n")
	lines[len(lines)-1] += "\n"
	for from := range lines {
		without := append(slices.Clone(lines[:from]), lines[from+1:]...)
		wantModel(t, strings.Join(without, ""))
		for to := range lines {
			wantModel(t, strings.Join(slices.Insert(slices.Clone(without), min(to, len(without)), lines[from]), ""))
			wantModel(t, strings.Join(slices.Insert(slices.Clone(lines), to, lines[from]), ""))
			swapped := slices.Clone(lines)
			swapped[from], swapped[to] = swapped[to], swapped[from]
			wantModel(t, strings.Join(swapped, ""))
		}
	}
}

// All texts of up to five of these lines.
func TestTextsOfFewLines(t *testing.T) {
	lines := []string{"lock:\n", "unlock:\n", "a:\n", "jump a\n", "await r1 0 r2 eq r3 else lock\n", "await r1 0 r2 eq r3\n", "done 1\n", "jump 0\n", "a"}
	seen := map[api.Errno]int{}
	var on func(text string, more int)
	on = func(text string, more int) {
		seen[wantModel(t, text)]++
		for _, line := range lines {
			if more > 0 {
				on(text+line, more-1)
			}
		}
	}
	on("", 5)
	for _, e := range []api.Errno{api.OK, api.ErrForm, api.ErrBusy, api.ErrNone} {
		if seen[e] < 100 {
			t.Errorf("only %d texts came to error %d", seen[e], e)
		}
	}
}

func TestLongTexts(t *testing.T) {
	const many = 1 << 20
	for _, x := range []struct {
		text string
		e    api.Errno
		line int
	}{
		{strings.Repeat("\n", many), api.ErrForm, 1},
		{strings.Repeat(" ", many), api.ErrForm, 1},
		{strings.Repeat("a", many) + ":\n", api.ErrForm, 1},
		{strings.Repeat(":", many) + "\n", api.ErrForm, 1},
		{"jump " + strings.Repeat("a", many) + "\n", api.ErrForm, 1},
		{"jump" + strings.Repeat(" a", many) + "\n", api.ErrForm, 1},
		{strings.Repeat("jump a ", many/7) + "\n", api.ErrForm, 1},
		{strings.Repeat("done 1\n", many/7), api.ErrBig, 65},
		{"a:\n" + strings.Repeat("jump a\n", many/7), api.ErrBig, 66},
		{strings.Repeat("a:\n", many/3), api.ErrBusy, 2},
	} {
		wantError(t, x.text, x.line, x.e)
	}
}

// What a call was refused, or gave, is nothing to the next one.
func TestAskingTwiceTellsTheSame(t *testing.T) {
	for range 3 {
		wantError(t, "a:\na:\n", 2, api.ErrBusy)
		wantError(t, "lock:\nunlock:\njump a\n", 3, api.ErrNone)
		wantModel(t, someText)
		wantCode(t, "lock:\nunlock:\na:\njump a\n", api.Code{L: []api.Inst{{Op: 10}}})
	}
	a, _, _ := Assemble(someText)
	a.L[0] = api.Inst{}
	wantModel(t, someText)
}

// P7.1: own texts

func TestOwnLabels(t *testing.T) {
	jump := func(to int) api.Inst { return api.Inst{Op: api.Jump, To: to} }
	// Both: lock's name is ahead.
	wantText(t, api.Code{L: []api.Inst{jump(0)}}, "lock:\nunlock:\njump lock\n")
	wantText(t, api.Code{L: []api.Inst{jump(1), jump(1)}, Lock: 1, Unlock: 1}, "jump lock\nlock:\nunlock:\njump lock\n")
	// Neither: a label of its own, just if something goes there.
	wantText(t, api.Code{L: []api.Inst{jump(1), jump(2), jump(0)}, Lock: 0, Unlock: 1}, "lock:\njump unlock\nunlock:\njump l2\nl2:\njump lock\n")
	wantText(t, api.Code{L: []api.Inst{jump(0), jump(2), jump(0)}, Lock: 1, Unlock: 2}, "l0:\njump l0\nlock:\njump unlock\nunlock:\njump l0\n")
	wantText(t, api.Code{L: []api.Inst{jump(2), jump(2), jump(1)}, Lock: 1, Unlock: 2}, "jump unlock\nlock:\njump unlock\nunlock:\njump lock\n")
	// Unlock ahead of lock.
	wantText(t, api.Code{L: []api.Inst{jump(2), jump(1), jump(0)}, Lock: 2, Unlock: 0}, "unlock:\njump lock\nl1:\njump l1\nlock:\njump unlock\n")
	// One label, however many go there.
	wantText(t, api.Code{L: []api.Inst{jump(1), jump(1), jump(1)}}, "lock:\nunlock:\njump l1\nl1:\njump l1\njump l1\n")
}

// The To of an instruction that has none is 0, and that of an Await may be -1: no place is gone to by them.
func TestNoLabelForAToThatIsNone(t *testing.T) {
	for _, o := range opLines {
		c := api.Code{L: []api.Inst{o.i, {Op: 13, K: 1}}, Lock: 1, Unlock: 1}
		wantText(t, c, o.line+"\nlock:\nunlock:\ndone 1\n")
	}
	for _, p := range placeLines {
		c := api.Code{L: []api.Inst{goingTo(p.i, 0), {Op: 13, K: 1}}, Lock: 1, Unlock: 1}
		wantText(t, c, "l0:\n"+p.head+"l0\nlock:\nunlock:\ndone 1\n")
	}
}

func TestOwnTextOfEachPlace(t *testing.T) {
	for _, p := range placeLines {
		for _, n := range []int{1, 2, 11, 64} {
			for to := range n {
				c := api.Code{L: dones(n), Lock: n / 2, Unlock: n - 1}
				c.L[0] = goingTo(p.i, to)
				wantText(t, c, modelText(c))
			}
		}
	}
	c := api.Code{L: dones(64)}
	c.L[5].Op, c.L[5].K, c.L[5].To = api.Jump, 0, 63
	if s, _ := Print(c); !strings.Contains(s, "\njump l63\n") || !strings.HasSuffix(s, "\nl63:\ndone 3\n") {
		t.Errorf("Print = %q", s)
	}
}

func TestProgramsThatAreNotRight(t *testing.T) {
	for n := 1; n <= 64; n++ {
		for _, p := range append([]int{n, n + 1}, far...) {
			wantWrong(t, api.Code{L: dones(n), Lock: p})
			wantWrong(t, api.Code{L: dones(n), Unlock: p})
			wantWrong(t, api.Code{L: dones(n), Lock: p, Unlock: p})
		}
		for _, p := range placeLines {
			for _, to := range append([]int{n, n + 1}, far...) {
				for _, at := range []int{0, n / 2, n - 1} {
					if c := (api.Code{L: dones(n)}); to != -1 || p.i.Op != api.Await {
						c.L[at] = goingTo(p.i, to)
						wantWrong(t, c)
					}
				}
			}
		}
	}
	wantWrong(t, api.Code{Lock: -1, Unlock: -1})
}

func TestInstructionsThatAreNotRight(t *testing.T) {
	for _, i := range []api.Inst{
		{}, {Op: 14}, {Op: 15}, {Op: 24}, {Op: -1}, {Op: 13, K: 4}, {Op: 13, D: 1}, {Op: 13, K: 1, To: 1}, {Op: 13, K: 1, To: -1}, {Op: 12}, {Op: 5, K: 32}, {Op: 2, D: 8}, {Op: 2, S: -1}, {Op: 2, T: 1}, {Op: 16, A: 8}, {Op: 10, K: 1}, {Op: 8, D: 1}, {Op: 21, K: 2}, {Op: 21, To: -2}, {Op: 23, D: 1}, {Op: 10, To: -1},
	} {
		for n := 1; n <= 64; n++ {
			for _, at := range []int{0, n / 2, n - 1} {
				c := api.Code{L: dones(n)}
				c.L[at] = i
				wantWrong(t, c)
			}
		}
	}
}

// P7.1: alike, and the same again

// changed are instructions unlike i, each in one field.
func changed(i api.Inst) []api.Inst {
	l := slices.Repeat([]api.Inst{i}, 8)
	l[0].Op++
	l[1].D++
	l[2].S++
	l[3].T++
	l[4].U++
	l[5].A++
	l[6].K++
	l[7].To++
	return l
}

func wantSame(t *testing.T, a, b api.Code, want bool) {
	t.Helper()
	if Same(a, b) != want || Same(b, a) != want {
		t.Errorf("Same(%+v, %+v) = %v and %v, want %v", a, b, Same(a, b), Same(b, a), want)
	}
}

func TestSameTellsAlikeFromUnlike(t *testing.T) {
	for _, n := range []int{1, 2, 3, 64, 65} { // Whether they are right is nothing to it.
		a := api.Code{L: dones(n), Lock: n / 2, Unlock: n / 3}
		wantSame(t, a, a, true)
		wantSame(t, a, api.Code{L: dones(n), Lock: n / 2, Unlock: n / 3}, true)
		wantSame(t, a, api.Code{L: dones(n), Lock: n/2 + 1, Unlock: n / 3}, false)
		wantSame(t, a, api.Code{L: dones(n), Lock: n / 2, Unlock: n/3 - 1}, false)
		wantSame(t, a, api.Code{L: dones(n), Lock: n/2 + 1<<32, Unlock: n / 3}, false)
		wantSame(t, a, api.Code{L: dones(n + 1), Lock: n / 2, Unlock: n / 3}, false)
		wantSame(t, a, api.Code{L: dones(n + 1)[1:], Lock: n / 2, Unlock: n / 3}, false)
		wantSame(t, a, api.Code{Lock: n / 2, Unlock: n / 3}, false)
		for at := range n {
			for _, i := range changed(a.L[at]) {
				b := api.Code{L: dones(n), Lock: n / 2, Unlock: n / 3}
				b.L[at] = i
				wantSame(t, a, b, false)
			}
		}
	}
	wantSame(t, api.Code{L: dones(2), Unlock: 1}, api.Code{L: dones(2), Lock: 1}, false)
	l := dones(2)
	wantSame(t, api.Code{L: l}, api.Code{L: []api.Inst{l[1], l[0]}}, false)
}

func TestSameOfNoList(t *testing.T) {
	wantSame(t, api.Code{}, api.Code{}, true)
	wantSame(t, api.Code{}, api.Code{L: []api.Inst{}}, true)
	wantSame(t, api.Code{L: make([]api.Inst, 0, 5)}, api.Code{L: []api.Inst{}}, true)
	wantSame(t, api.Code{}, api.Code{L: make([]api.Inst, 1)}, false)
	wantSame(t, api.Code{}, api.Code{Lock: 1}, false)
	wantSame(t, api.Code{}, api.Code{Unlock: -1}, false)
	wantSame(t, api.Code{L: make([]api.Inst, 3, 9)}, api.Code{L: make([]api.Inst, 3)}, true)
}

func TestCopyIsTheSameAndSharesNothing(t *testing.T) {
	for _, n := range []int{0, 1, 2, 64, 65, 1000} {
		a := api.Code{L: dones(n), Lock: 7, Unlock: -3}
		b := Copy(a)
		if !alike(a, b) || !Same(a, b) {
			t.Errorf("Copy(%+v) = %+v", a, b)
		}
		for at := range n {
			b.L[at].K = 99
			if a.L[at] != dones(n)[at] {
				t.Fatalf("place %d was changed by what was done to the copy", at)
			}
		}
		b = Copy(a)
		for at := range n {
			a.L[at].K = 77
			if b.L[at] != dones(n)[at] {
				t.Fatalf("place %d of the copy was changed by what was done to the first one", at)
			}
		}
	}
}

// Nor does it share what lies behind its list.
func TestCopyOfAListWithRoom(t *testing.T) {
	all := dones(10)
	for n := range 10 {
		b := Copy(api.Code{L: all[:n]})
		if len(b.L) != n {
			t.Errorf("Copy of %d has %d", n, len(b.L))
		}
		b.L = append(b.L, api.Inst{Op: 99}, api.Inst{Op: 98})
		if !slices.Equal(all, dones(10)) {
			t.Fatalf("what was put behind the copy of %d stands in the first one: %v", n, all)
		}
	}
	if b := Copy(api.Code{}); len(b.L) != 0 || b.Lock != 0 || b.Unlock != 0 {
		t.Errorf("Copy of none = %+v", b)
	}
}

func TestWhatIsHandedInIsLeftAsItWas(t *testing.T) {
	want, _, _ := Assemble(someText)
	all := append(slices.Clone(want.L), dones(5)...)
	before := slices.Clone(all)
	c := api.Code{L: all[:len(want.L)], Lock: want.Lock, Unlock: want.Unlock}
	wrong := api.Code{L: all, Lock: -1}
	for range 2 {
		Right(c)
		Print(c)
		Same(c, want)
		Copy(c)
		Right(wrong)
		Print(wrong)
		Copy(wrong)
		if !slices.Equal(all, before) || !alike(c, want) || wrong.Lock != -1 {
			t.Fatalf("%+v, want %+v", all, before)
		}
	}
}

func TestAnswersShareNothing(t *testing.T) {
	a, _, _ := Assemble(ticket)
	b, _, _ := Assemble(ticket)
	for n := range a.L {
		a.L[n] = api.Inst{}
	}
	if s, e := Print(b); s != ticket || e != api.OK {
		t.Errorf("%q, error %d", s, e)
	}
}

// P7.2

// mixed is numbers that look as if they came by chance, but are the same each time.
type mixed uint64

func (m *mixed) below(n int) int {
	*m = *m*6364136223846793005 + 1442695040888963407
	return int(uint64(*m)>>33) % n
}

func (m *mixed) inst(places int) api.Inst {
	if m.below(2) == 0 {
		return goingTo(placeLines[m.below(len(placeLines))].i, m.below(places))
	}
	i := opLines[m.below(len(opLines))].i
	if i.Op == api.Const {
		i.D, i.K = m.below(8), uint32(m.below(1<<31))
	}
	return i
}

func (m *mixed) code() api.Code {
	n := 1 + m.below(64)
	c := api.Code{Lock: m.below(n), Unlock: m.below(n)}
	for range n {
		c.L = append(c.L, m.inst(n))
	}
	return c
}

func TestAssembleOfPrintIsTheProgram(t *testing.T) {
	var m mixed
	for range 4000 {
		c := m.code()
		s, e := Print(c)
		if e != api.OK || s != modelText(c) {
			t.Fatalf("Print(%+v) = %q, error %d, want %q", c, s, e, modelText(c))
		}
		x, line, e := Assemble(s)
		if e != api.OK || line != 0 || !alike(x, c) || !Same(x, c) || !Right(c) {
			t.Fatalf("Assemble(%q) = %+v, line %d, error %d, want %+v", s, x, line, e, c)
		}
	}
}

// All programs of one to three of these instructions, with each Lock and Unlock; no two have one text.
func TestAllSmallProgramsBothWays(t *testing.T) {
	seen := map[string]bool{}
	count := 0
	var on func(l []api.Inst, n int)
	on = func(l []api.Inst, n int) {
		if len(l) < n {
			for _, i := range []api.Inst{{Op: 13, K: 1}, {Op: 1, D: 1, K: 5}, {Op: 21, D: 1, To: -1}} {
				on(append(slices.Clone(l), i), n)
			}
			for to := range n {
				on(append(slices.Clone(l), api.Inst{Op: 10, To: to}), n)
				on(append(slices.Clone(l), api.Inst{Op: 21, D: 1, To: to}), n)
			}
			return
		}
		for place := range n * n {
			c := api.Code{L: l, Lock: place / n, Unlock: place % n}
			s := modelText(c)
			wantText(t, c, s)
			seen[s] = true
			count++
		}
	}
	for n := 1; n <= 3; n++ {
		on(nil, n)
	}
	if len(seen) != count || count < 5000 {
		t.Errorf("%d texts of %d programs", len(seen), count)
	}
}

// The own text of a text's program is a text of that program, and its own text again.
func TestPrintOfAssemble(t *testing.T) {
	for _, text := range []string{someText, ticket, "unlock:\na:\nb:\njump b\nc:\nlock:\nd:\nbeq r1 r2 d\ne:\n"} {
		c, _, _ := Assemble(text)
		s, e := Print(c)
		if e != api.OK || s != modelText(c) {
			t.Errorf("Print of %q = %q, error %d", text, s, e)
		}
		x, _, _ := Assemble(s)
		if y, _ := Print(x); y != s || !alike(x, c) {
			t.Errorf("%q, then %q", s, y)
		}
	}
}
