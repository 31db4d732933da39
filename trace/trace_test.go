package trace

import (
	"fmt"
	"math"
	"regexp"
	"slices"
	"strconv"
	"strings"
	"testing"

	"ropeline/api"
)

// kinds are the chapter's kinds and their words, once more: the numbers stand here as they are, not by their names.
var kinds = []struct {
	kind int
	word string
}{
	{1, "call"}, {2, "enq"}, {3, "grant"}, {4, "abort"}, {5, "got"},
	{6, "lost"}, {7, "full"}, {8, "unlock"}, {9, "release"}, {10, "over"},
}

const behindNow = 1099511627777 // the first tick at which no entry has a line: 2^40 and one more

// ordinary are a right entry of each kind, at the edges of both numbers and between, with their lines.
var ordinary = []struct {
	x    Entry
	line string
}{
	{Entry{2, 3, 17}, "enq 3 17"},
	{Entry{1, 0, 0}, "call 0 0"},
	{Entry{2, 63, 1099511627776}, "enq 63 1099511627776"},
	{Entry{3, 1, 1}, "grant 1 1"},
	{Entry{4, 62, 1099511627775}, "abort 62 1099511627775"},
	{Entry{5, 9, 10}, "got 9 10"},
	{Entry{6, 10, 9}, "lost 10 9"},
	{Entry{7, 0, 1099511627776}, "full 0 1099511627776"},
	{Entry{8, 63, 0}, "unlock 63 0"},
	{Entry{9, 32, 4294967296}, "release 32 4294967296"},
	{Entry{10, 31, 2147483648}, "over 31 2147483648"},
}

// wrongKinds, wrongThreads and wrongNows may not be; cut down to fewer bits, many of them would be fine.
var (
	wrongKinds   = []int{0, 11, 12, 16, 255, 257, -1, -2, 1<<32 + 2, 2 - 1<<32, math.MaxInt, math.MinInt}
	wrongThreads = []int{64, 65, 128, 256, -1, -2, -63, -64, 1 << 32, 1<<32 + 3, -1 << 32, math.MaxInt, math.MinInt}
	wrongNows    = []int{behindNow, behindNow + 1, 1 << 41, -1, -2, -17, -1 << 32, -1 << 40, math.MaxInt, math.MinInt}
)

// wrong are entries of which each has one number that may not be.
var wrong = func() []Entry {
	var l []Entry
	for _, v := range wrongKinds {
		l = append(l, Entry{v, 3, 17})
	}
	for _, v := range wrongThreads {
		l = append(l, Entry{2, v, 17})
	}
	for _, v := range wrongNows {
		l = append(l, Entry{2, 3, v})
	}
	return l
}()

var lineForm = regexp.MustCompile(`\A([a-z]+) (0|[1-9][0-9]*) (0|[1-9][0-9]*)\z`)

// model is the entry of a line, by the chapter's words and a pattern.
func model(s string) (Entry, bool) {
	m := lineForm.FindStringSubmatch(s)
	if m == nil {
		return Entry{}, false
	}
	for _, k := range kinds {
		thread, e1 := strconv.ParseUint(m[2], 10, 64)
		now, e2 := strconv.ParseUint(m[3], 10, 64)
		if k.word == m[1] && e1 == nil && e2 == nil && thread <= 63 && now <= behindNow-1 {
			return Entry{k.kind, int(thread), int(now)}, true
		}
	}
	return Entry{}, false
}

// modelText is the same of a text, end of line by end of line.
func modelText(s string) ([]Entry, int, api.Errno) {
	var l []Entry
	for s != "" {
		n := strings.IndexByte(s, '\n')
		if n < 0 {
			return nil, len(l), api.ErrForm
		}
		x, ok := model(s[:n])
		if !ok {
			return nil, len(l), api.ErrForm
		}
		l, s = append(l, x), s[n+1:]
	}
	return l, len(l), api.OK
}

// modelHolder asks of each Grant for all that stands behind it.
func modelHolder(l []Entry) (int, bool) {
	thread, found := 0, false
	for n, x := range l {
		if x.Kind == 3 && !slices.ContainsFunc(l[n+1:], func(y Entry) bool { return y.Kind == 9 && y.Thread == x.Thread }) {
			thread, found = x.Thread, true
		}
	}
	return thread, found
}

func short(s string) string { return s[:min(len(s), 200)] }

// wantLine asks that this is an entry's line, and that it is the line's entry.
func wantLine(t *testing.T, x Entry, want string) {
	t.Helper()
	if s, ok := Line(x); s != want || !ok {
		t.Errorf("Line(%+v) = %q, %v, want %q, true", x, s, ok, want)
	}
	if p, ok := ParseLine(want); p != x || !ok {
		t.Errorf("ParseLine(%q) = %+v, %v, want %+v, true", want, p, ok, x)
	}
}

func wantNoLine(t *testing.T, x Entry) {
	t.Helper()
	if s, ok := Line(x); s != "" || ok {
		t.Errorf("Line(%+v) = %q, %v, want none, false", x, s, ok)
	}
}

func wantNoEntry(t *testing.T, s string) {
	t.Helper()
	if x, ok := ParseLine(s); x != (Entry{}) || ok {
		t.Errorf("ParseLine(%q) = %+v, %v, want none, false", short(s), x, ok)
	}
}

// wantParsedLine asks for what the pattern says of a line, and whether it is one.
func wantParsedLine(t *testing.T, s string) bool {
	t.Helper()
	x, ok := model(s)
	if ok {
		wantLine(t, x, s)
	} else {
		wantNoEntry(t, s)
	}
	return ok
}

// wantText asks that this is the text of entries, and that they are the text's.
func wantText(t *testing.T, l []Entry, want string) {
	t.Helper()
	if s, e := Text(l); s != want || e != api.OK {
		t.Errorf("Text(%s) = %q, error %d, want %q", short(fmt.Sprint(l)), short(s), e, short(want))
	}
	if p, n, e := Parse(want); !slices.Equal(p, l) || n != len(l) || e != api.OK {
		t.Errorf("Parse(%q) = %s, %d, error %d, want %s", short(want), short(fmt.Sprint(p)), n, e, short(fmt.Sprint(l)))
	}
}

func wantNoText(t *testing.T, l []Entry) {
	t.Helper()
	if s, e := Text(l); s != "" || e != api.ErrForm {
		t.Errorf("Text(%s) = %q, error %d, want no text, error %d", short(fmt.Sprint(l)), short(s), e, api.ErrForm)
	}
}

func wantNoEntries(t *testing.T, s string, line int) {
	t.Helper()
	if l, n, e := Parse(s); len(l) != 0 || n != line || e != api.ErrForm {
		t.Errorf("Parse(%q) = %s, %d, error %d, want none, %d, error %d", short(s), short(fmt.Sprint(l)), n, e, line, api.ErrForm)
	}
}

// wantParsed asks for what the pattern says of a text.
func wantParsed(t *testing.T, s string) {
	t.Helper()
	l, n, e := modelText(s)
	if e != api.OK {
		wantNoEntries(t, s, n)
		return
	}
	wantText(t, l, s)
}

func wantCount(t *testing.T, l []Entry, kind, want int) {
	t.Helper()
	if n := Count(l, kind); n != want {
		t.Errorf("Count(%s, %d) = %d, want %d", short(fmt.Sprint(l)), kind, n, want)
	}
}

func wantOf(t *testing.T, l []Entry, thread int, want ...Entry) {
	t.Helper()
	if its := Of(l, thread); !slices.Equal(its, want) {
		t.Errorf("Of(%s, %d) = %v, want %v", short(fmt.Sprint(l)), thread, its, want)
	}
}

func wantHolder(t *testing.T, l []Entry, want int) {
	t.Helper()
	if thread, ok := Holder(l); thread != want || !ok {
		t.Errorf("Holder(%s) = %d, %v, want %d, true", short(fmt.Sprint(l)), thread, ok, want)
	}
}

func wantNoHolder(t *testing.T, l []Entry) {
	t.Helper()
	if thread, ok := Holder(l); thread != 0 || ok {
		t.Errorf("Holder(%s) = %d, %v, want 0, false", short(fmt.Sprint(l)), thread, ok)
	}
}

func grant(thread int) Entry   { return Entry{Kind: 3, Thread: thread} }
func release(thread int) Entry { return Entry{Kind: 9, Thread: thread} }

// draws gives numbers from a rule of its own, so that a run is the same each time.
type draws struct{ x uint64 }

func (d *draws) next(n int) int {
	d.x = d.x*6364136223846793005 + 1442695040888963407
	return int(d.x >> 33 % uint64(n))
}

// entry is a right one.
func (d *draws) entry() Entry {
	now := d.next(1 << 30)
	switch d.next(4) {
	case 0:
		now = behindNow - 1 - now
	case 1:
		now = now << 10
	case 2:
		now %= 12
	}
	return Entry{kinds[d.next(10)].kind, d.next(64), now}
}

func (d *draws) entries(n int) []Entry {
	var l []Entry
	for range n {
		l = append(l, d.entry())
	}
	return l
}

// P12.1: entries and their lines

func TestKindsAreThoseOfTheChapter(t *testing.T) {
	for n, kind := range []int{Call, Enq, Grant, Abort, Got, Lost, Full, Unlock, Release, Over} {
		if kind != kinds[n].kind {
			t.Errorf("%s is %d, want %d", kinds[n].word, kind, kinds[n].kind)
		}
	}
}

func TestExampleOfTheChapter(t *testing.T) {
	wantLine(t, Entry{Kind: Enq, Thread: 3, Now: 17}, "enq 3 17")
}

func TestLineOfEachKind(t *testing.T) {
	for _, k := range kinds {
		wantLine(t, Entry{k.kind, 3, 17}, k.word+" 3 17")
		wantLine(t, Entry{k.kind, 0, 0}, k.word+" 0 0")
		wantLine(t, Entry{k.kind, 63, 1099511627776}, k.word+" 63 1099511627776")
	}
	for _, o := range ordinary {
		wantLine(t, o.x, o.line)
	}
}

func TestEntriesWithoutALine(t *testing.T) {
	wantNoLine(t, Entry{})
	for _, x := range wrong {
		wantNoLine(t, x)
	}
	for kind := -300; kind <= 300; kind++ {
		if x := (Entry{kind, 3, 17}); kind < 1 || kind > 10 {
			wantNoLine(t, x)
		} else {
			wantLine(t, x, kinds[kind-1].word+" 3 17")
		}
	}
}

func TestThreadsFrom0To63(t *testing.T) {
	for _, k := range kinds {
		for thread := -300; thread <= 300; thread++ {
			line := fmt.Sprintf("%s %d 17", k.word, thread)
			if x := (Entry{k.kind, thread, 17}); thread >= 0 && thread <= 63 {
				wantLine(t, x, line)
			} else {
				wantNoLine(t, x)
				wantNoEntry(t, line)
			}
		}
	}
}

func TestTicksFrom0To2To40(t *testing.T) {
	nows := []int{math.MinInt, math.MaxInt}
	for shift := range 63 {
		for more := -2; more <= 2; more++ {
			nows = append(nows, 1<<shift+more, -1<<shift+more)
		}
	}
	for tens := 1; tens < 1e18; tens *= 10 {
		nows = append(nows, tens-1, tens, tens+1, 10990000000000+tens)
	}
	for _, k := range kinds {
		for _, now := range nows {
			line := fmt.Sprintf("%s 3 %d", k.word, now)
			if x := (Entry{k.kind, 3, now}); now >= 0 && now < behindNow {
				wantLine(t, x, line)
			} else {
				wantNoLine(t, x)
				wantNoEntry(t, line)
			}
		}
	}
}

// Where two are wrong, or all three, there is no line either.
func TestEntriesWrongInSeveralWays(t *testing.T) {
	for _, kind := range wrongKinds {
		for _, thread := range wrongThreads {
			wantNoLine(t, Entry{kind, thread, 17})
			for _, now := range wrongNows {
				wantNoLine(t, Entry{kind, 3, now})
				wantNoLine(t, Entry{2, thread, now})
				wantNoLine(t, Entry{kind, thread, now})
			}
		}
	}
}

func TestLinesThatAreNone(t *testing.T) {
	for _, s := range []string{
		"", " ", "  ", "   ", "0", "3 17", "3 17 enq", "2 3 17", "17",
		"enq", "enq ", "enq  ", "enq 3", "enq 3 ", "enq  17", "enq 17 3 1", "enq 3 17 0", "enq 3 17 enq", "enq 3 17 ", "enq 3 17  ", "enq enq 3 17", "enq grant 3", "enq 3 grant",
		"nope 3 17", "Enq 3 17", "ENQ 3 17", "enQ 3 17", "en 3 17", "nq 3 17", "e 3 17", "enqq 3 17", "enqs 3 17", "eenq 3 17", "enq: 3 17", "enqueue 3 17", "relea 3 17", "released 3 17", "ungot 3 17", "try 3 17", "tick 3 17", "none 3 17", "kind 3 17", "callenq 3 17", "call,enq 3 17",
		"enq  3 17", "enq 3  17", " enq 3 17", "enq3 17", "enq 317", "enq317", "enq, 3 17", "enq 3, 17", "enq-3-17", "enq_3_17",
		"enq -3 17", "enq +3 17", "enq 3 -17", "enq 3 +17", "enq -0 17", "enq 3 -0", "enq +0 17", "enq 3 +0", "enq - 17", "enq 3 -", "enq --3 17",
		"enq 03 17", "enq 3 017", "enq 00 17", "enq 3 00", "enq 063 17", "enq 3 00000000000000000000000000000000000000017",
		"enq 3x 17", "enq 3 17x", "enq x3 17", "enq 3 x17", "enq 3 1x7", "enq 0x3 17", "enq 3 0x11", "enq 3 1_7", "enq 1_0 17", "enq 3 1e1", "enq 3 1.0", "enq 3. 17", "enq 3 17.", "enq 3 1,7", "enq r3 17", "enq three 17", "enq 0b1 17", "enq 0o7 17", "enq 3 1'7",
		"enq 64 17", "enq 99 17", "enq 100 17", "enq 259 17", "enq 4294967299 17", "enq 18446744073709551619 17", "enq 9223372036854775807 17", "enq 9223372036854775808 17", "enq -9223372036854775808 17", "enq 340282366920938463463374607431768211459 17",
		"enq 3 1099511627777", "enq 3 1099511627780", "enq 3 1100000000000", "enq 3 9999999999999", "enq 3 9223372036854775807", "enq 3 9223372036854775808", "enq 3 18446744073709551615", "enq 3 18446744073709551616", "enq 3 18446744073709551633", "enq 3 340282366920938463463374607431768211473",
		"\n", "enq 3 17\n", "\nenq 3 17", "enq 3\n17", "enq\n3 17", "enq 3 1\n7", "enq 3 17\n\n", "enq 3 17\nenq 3 17", "enq 3 17\r", "enq 3 17\r\n", "enq 3 17\x00", "\x00enq 3 17", "enq 3 17#", "# enq 3 17",
		"enq\u00a03 17", "enq 3\u300017", "\ufeffenq 3 17", "enq \uff13 17", "enq \u0663 17", "enq 3 \u0661\u0667", "\u0435nq 3 17", "enq 3 17\xff", "\xffenq 3 17", "\xc0\x80", "e\xccnq 3 17", "\xff\xfe\xfd",
	} {
		wantNoEntry(t, s)
		if x, ok := model(s); ok {
			t.Errorf("the test's own pattern says of %q: %+v", s, x)
		}
	}
}

func TestOtherWhiteSpaceMakesNoLine(t *testing.T) {
	for _, o := range ordinary {
		s := o.line
		for _, space := range []string{" ", "  ", "\t", "\n", "\r", "\r\n", "\v", "\f", "\u0085", "\u00a0", "\u2003", "\u3000", "\x00"} {
			wantNoEntry(t, space+s)
			wantNoEntry(t, s+space)
			for n := range s {
				if s[n] != ' ' {
					continue
				}
				wantNoEntry(t, s[:n]+" "+space+s[n+1:])
				wantNoEntry(t, s[:n]+space+" "+s[n+1:])
				if space != " " {
					wantNoEntry(t, s[:n]+space+s[n+1:])
				}
			}
		}
	}
}

func TestWordsInOtherLettersOrCutShort(t *testing.T) {
	for _, k := range kinds {
		for n := range k.word {
			wantNoEntry(t, k.word[:n]+" 3 17")
			wantNoEntry(t, k.word[n+1:]+" 3 17")
			wantNoEntry(t, k.word[:n]+strings.ToUpper(k.word[n:n+1])+k.word[n+1:]+" 3 17")
			wantNoEntry(t, k.word[:n]+" "+k.word[n:]+" 3 17")
		}
		for _, other := range kinds {
			wantNoEntry(t, k.word+other.word+" 3 17")
			wantNoEntry(t, k.word+" "+other.word+" 3 17")
			wantNoEntry(t, k.word+" 3 "+other.word)
		}
		wantNoEntry(t, strings.ToUpper(k.word)+" 3 17")
		wantNoEntry(t, strconv.Itoa(k.kind)+" 3 17")
	}
}

// All lines of up to four of some words: the ones that the pattern says are entries', and no other.
func TestLinesOfFewWords(t *testing.T) {
	some := []string{"", "enq", "release", "over", "Enq", "nope", "0", "1", "7", "9", "63", "64", "07", "00", "-1", "+1", "-0", "1x", "1099511627776", "1099511627777", "9223372036854775808", "18446744073709551617", "\xff", "1\n"}
	found := 0
	var on func(s string, more int)
	on = func(s string, more int) {
		if wantParsedLine(t, s) {
			found++
		}
		if more == 0 {
			return
		}
		for _, word := range some {
			on(s+" "+word, more-1)
		}
	}
	for _, word := range some {
		on(word, 3)
	}
	if found != 3*5*7 {
		t.Errorf("%d lines were found, want %d", found, 3*5*7)
	}
}

func TestLinesWithOneByteChanged(t *testing.T) {
	for _, o := range ordinary {
		s := o.line
		for n := range len(s) + 1 {
			for b := range 256 {
				sign := string([]byte{byte(b)})
				wantParsedLine(t, s[:n]+sign+s[n:])
				if n < len(s) {
					wantParsedLine(t, s[:n]+sign+s[n+1:])
				}
			}
			if n < len(s) {
				wantParsedLine(t, s[:n]+s[n+1:])
			}
			wantParsedLine(t, s[:n])
			wantParsedLine(t, s[n:])
		}
	}
}

func TestLongLinesAreNone(t *testing.T) {
	const many = 1 << 20
	for _, s := range []string{
		strings.Repeat(" ", many), strings.Repeat("e", many), strings.Repeat("enq 3 17 ", many/9), strings.Repeat("\xff", many),
		"enq " + strings.Repeat("9", many) + " 17", "enq 3 " + strings.Repeat("9", many), "enq 3 " + strings.Repeat("0", many) + "1", "enq 3 17" + strings.Repeat(" ", many), "enq" + strings.Repeat(" ", many) + "3 17", "enq 3 17" + strings.Repeat("\n", many),
	} {
		wantNoEntry(t, s)
	}
}

// P12.1: texts

func TestNoEntriesAndNoText(t *testing.T) {
	wantText(t, nil, "")
	wantText(t, []Entry{}, "")
	wantText(t, ordinaryEntries()[:0], "")
}

func ordinaryEntries() []Entry {
	var l []Entry
	for _, o := range ordinary {
		l = append(l, o.x)
	}
	return l
}

func ordinaryText() string {
	s := ""
	for _, o := range ordinary {
		s += o.line + "\n"
	}
	return s
}

func TestTextIsAllLinesWithTheirEnds(t *testing.T) {
	for _, o := range ordinary {
		wantText(t, []Entry{o.x}, o.line+"\n")
		wantText(t, []Entry{o.x, o.x, o.x}, o.line+"\n"+o.line+"\n"+o.line+"\n")
	}
	wantText(t, ordinaryEntries(), ordinaryText())
	wantText(t, []Entry{{1, 0, 0}, {2, 0, 1}, {3, 0, 1}}, "call 0 0\nenq 0 1\ngrant 0 1\n")
	// A text is entries in any order, whatever their ticks.
	wantText(t, []Entry{{10, 5, 9}, {1, 4, 2}, {1, 4, 2}}, "over 5 9\ncall 4 2\ncall 4 2\n")
}

func TestTextWithOneThatHasNoLine(t *testing.T) {
	l := ordinaryEntries()
	for _, x := range append([]Entry{{}}, wrong...) {
		wantNoText(t, []Entry{x})
		wantNoText(t, []Entry{x, x})
		for n := range len(l) + 1 {
			wantNoText(t, slices.Insert(slices.Clone(l), n, x))
		}
	}
}

func TestLastLineWithoutItsEnd(t *testing.T) {
	for ahead := range 40 {
		s := strings.Repeat("got 1 2\n", ahead)
		for _, last := range []string{"enq 3 17", "enq 3", "e", " ", "enq 3 17\r", "\x00"} {
			wantNoEntries(t, s+last, ahead)
		}
		wantParsed(t, s+"enq 3 17\n")
	}
}

func TestFirstLineThatIsNone(t *testing.T) {
	for _, bad := range []string{"", " ", "enq 3", "enq 3 17 ", " enq 3 17", "enq 64 17", "enq 3 -1", "enq 3 017", "nope 3 17", "enq 3 17\r", "enq 3 1099511627777", "\xff", "enq 3 9223372036854775808"} {
		for n := range 12 {
			ahead, behind := strings.Repeat("lost 5 6\n", n), strings.Repeat("full 7 8\n", 11-n)
			wantNoEntries(t, ahead+bad+"\n"+behind, n)
			wantNoEntries(t, ahead+bad+"\n"+bad+"\n"+behind, n)
			wantNoEntries(t, ahead+bad+"\n"+behind+"enq 3 17", n)
			wantNoEntries(t, ahead+bad+" ", n)
		}
	}
	wantNoEntries(t, "\n", 0)
	wantNoEntries(t, "\n\n", 0)
	wantNoEntries(t, "enq 3 17\n\n", 1)
	wantNoEntries(t, "\nenq 3 17\n", 0)
	wantNoEntries(t, "enq 3 17\r\nenq 3 18\r\n", 0)
	wantNoEntries(t, "enq 3 17\rgot 3 18\n", 0)
	wantNoEntries(t, "enq 3 17\ngot\n3 18\n", 1)
	wantNoEntries(t, "enq 3 17\u2028got 3 18\n", 0)
}

func TestFirstLineThatIsNoneIsTheFirstByItsNumber(t *testing.T) {
	const lines = 3000
	l := slices.Repeat([]string{"grant 2 3\n"}, lines)
	for _, n := range []int{0, 1, 2, 9, 10, 255, 256, 257, 1499, 2998, 2999} {
		kept := l[n]
		l[n] = "grant 2\n"
		wantNoEntries(t, strings.Join(l, ""), n)
		l[n] = kept
	}
	wantText(t, slices.Repeat([]Entry{{3, 2, 3}}, lines), strings.Join(l, ""))
}

func TestTextsWithOneByteChanged(t *testing.T) {
	const s = "call 0 0\nenq 63 17\nrelease 5 1099511627776\n"
	for n := range len(s) + 1 {
		for b := range 256 {
			sign := string([]byte{byte(b)})
			wantParsed(t, s[:n]+sign+s[n:])
			if n < len(s) {
				wantParsed(t, s[:n]+sign+s[n+1:])
			}
		}
		if n < len(s) {
			wantParsed(t, s[:n]+s[n+1:])
		}
		wantParsed(t, s[:n])
		wantParsed(t, s[n:])
	}
}

// All texts of up to five of some pieces.
func TestTextsOfFewPieces(t *testing.T) {
	pieces := []string{"enq 3 17", "over 0 0", "nope 1 1", "\n", " ", "1", "call 1 2\n"}
	read := 0
	var on func(s string, more int)
	on = func(s string, more int) {
		wantParsed(t, s)
		if _, _, e := Parse(s); e == api.OK {
			read++
		}
		if more == 0 {
			return
		}
		for _, piece := range pieces {
			on(s+piece, more-1)
		}
	}
	on("", 5)
	if read < 50 {
		t.Errorf("only %d texts were read", read)
	}
}

// P12.1: Count and Of

func TestCountOfEachKind(t *testing.T) {
	var l []Entry
	for n, k := range kinds {
		wantCount(t, l, k.kind, 0)
		for i := range n + 1 {
			l = append(l, Entry{k.kind, i, i})
			wantCount(t, l, k.kind, i+1)
		}
	}
	slices.Reverse(l)
	for n, k := range kinds {
		wantCount(t, l, k.kind, n+1)
	}
	for _, kind := range []int{0, 11, -1, -2, 255, 256, 257, 258, 1<<32 + 2, 2 - 1<<32, math.MaxInt, math.MinInt} {
		wantCount(t, l, kind, 0)
	}
	for kind := -20; kind < 20; kind++ {
		wantCount(t, nil, kind, 0)
		wantCount(t, []Entry{}, kind, 0)
	}
}

// The Kind alone counts, whatever else an entry has.
func TestCountGoesByTheKindAlone(t *testing.T) {
	l := []Entry{{2, 0, 0}, {2, -1, 17}, {2, 64, -1}, {3, 2, 2}, {2, math.MaxInt, math.MinInt}, {2, 2, 2}}
	wantCount(t, l, 2, 5)
	wantCount(t, l, 3, 1)
	wantCount(t, l, 1, 0)
	for _, x := range wrong {
		wantCount(t, []Entry{x}, x.Kind, 1)
	}
}

func TestOfAThreadInOrder(t *testing.T) {
	l := []Entry{{1, 5, 0}, {1, 2, 0}, {2, 2, 1}, {2, 5, 1}, {3, 2, 1}, {5, 2, 1}, {1, 5, 0}, {8, 2, 7}, {9, 2, 8}, {3, 5, 8}, {1, 63, 9}, {1, 0, 9}}
	wantOf(t, l, 5, Entry{1, 5, 0}, Entry{2, 5, 1}, Entry{1, 5, 0}, Entry{3, 5, 8})
	wantOf(t, l, 2, Entry{1, 2, 0}, Entry{2, 2, 1}, Entry{3, 2, 1}, Entry{5, 2, 1}, Entry{8, 2, 7}, Entry{9, 2, 8})
	wantOf(t, l, 63, Entry{1, 63, 9})
	wantOf(t, l, 0, Entry{1, 0, 9})
	for _, thread := range []int{1, 3, 4, 6, 7, 8, 9, 17, 62, 64, -1, -5, 256, 256 + 5, 1<<32 + 5, 5 - 1<<32, math.MaxInt, math.MinInt} {
		wantOf(t, l, thread)
	}
	for thread := -3; thread < 67; thread++ {
		wantOf(t, nil, thread)
		wantOf(t, []Entry{}, thread)
	}
	for _, x := range wrong {
		wantOf(t, []Entry{x, {1, 1, 1}, x}, x.Thread, x, x)
	}
}

func TestOfEachThreadOfMany(t *testing.T) {
	d := &draws{x: 3}
	l := d.entries(5000)
	all, kindsCounted := 0, 0
	for thread := range 64 {
		var want []Entry
		for _, x := range l {
			if x.Thread == thread {
				want = append(want, x)
			}
		}
		wantOf(t, l, thread, want...)
		all += len(Of(l, thread))
	}
	for _, k := range kinds {
		kindsCounted += Count(l, k.kind)
	}
	if all != len(l) || kindsCounted != len(l) {
		t.Errorf("of %d entries, %d are a thread's, and %d of a kind", len(l), all, kindsCounted)
	}
}

// P12.1: Holder

func TestHolder(t *testing.T) {
	wantNoHolder(t, nil)
	wantNoHolder(t, []Entry{})
	for _, thread := range []int{0, 1, 7, 62, 63} {
		other := (thread + 1) % 64
		wantHolder(t, []Entry{grant(thread)}, thread)
		wantNoHolder(t, []Entry{release(thread)})
		wantNoHolder(t, []Entry{grant(thread), release(thread)})
		wantHolder(t, []Entry{release(thread), grant(thread)}, thread)
		wantHolder(t, []Entry{grant(thread), release(other)}, thread)
		wantHolder(t, []Entry{grant(thread), release(other), release(other)}, thread)
		wantNoHolder(t, []Entry{grant(thread), release(other), release(thread)})
		wantNoHolder(t, []Entry{grant(thread), release(thread), release(other)})
		wantHolder(t, []Entry{grant(thread), release(thread), grant(other)}, other)
		wantHolder(t, []Entry{grant(thread), release(thread), grant(thread)}, thread)
		wantNoHolder(t, []Entry{grant(thread), release(thread), grant(other), release(other)})
	}
}

func TestHolderBehindSeveralGrants(t *testing.T) {
	wantHolder(t, []Entry{grant(1), grant(2), grant(3)}, 3)
	wantHolder(t, []Entry{grant(1), grant(2), grant(3), release(3)}, 2)
	wantHolder(t, []Entry{grant(1), grant(2), grant(3), release(2)}, 3)
	wantHolder(t, []Entry{grant(1), grant(2), grant(3), release(2), release(3)}, 1)
	wantHolder(t, []Entry{grant(1), grant(2), grant(3), release(3), release(1)}, 2)
	wantNoHolder(t, []Entry{grant(1), grant(2), grant(3), release(1), release(3), release(2)})
	// One Release stands behind both of a thread's Grants.
	wantNoHolder(t, []Entry{grant(4), grant(4), release(4)})
	wantHolder(t, []Entry{grant(4), release(4), grant(5), release(4)}, 5)
	wantHolder(t, []Entry{grant(5), grant(4), release(4), grant(4), release(4)}, 5)
}

// No other kind makes or ends a holder, and a Release is the thread's whenever it is.
func TestHolderByGrantAndReleaseAlone(t *testing.T) {
	for kind := -20; kind < 30; kind++ {
		for _, now := range []int{0, 5, 1 << 40, -1, math.MaxInt} {
			x := Entry{kind, 6, now}
			switch kind {
			case 3:
				wantHolder(t, []Entry{x}, 6)
				wantHolder(t, []Entry{x, grant(5)}, 5)
			case 9:
				wantNoHolder(t, []Entry{grant(6), x})
				wantNoHolder(t, []Entry{{3, 6, 4}, x})
			default:
				wantNoHolder(t, []Entry{x})
				wantHolder(t, []Entry{grant(6), x}, 6)
				wantHolder(t, []Entry{grant(5), x}, 5)
				wantNoHolder(t, []Entry{grant(6), release(6), x})
			}
		}
	}
}

// Threads that have no line are held apart as others are.
func TestHolderOfAnyThreads(t *testing.T) {
	threads := []int{0, 63, 64, -1, 256, 1 << 32, -1 << 32, math.MaxInt, math.MinInt}
	for _, a := range threads {
		wantHolder(t, []Entry{grant(a)}, a)
		wantNoHolder(t, []Entry{grant(a), release(a)})
		for _, b := range threads {
			if a != b {
				wantHolder(t, []Entry{grant(a), release(b)}, a)
				wantHolder(t, []Entry{grant(a), grant(b), release(b)}, a)
			}
		}
	}
}

// All lists of up to six entries, of three threads.
func TestHolderOfAllShortLists(t *testing.T) {
	some := []Entry{grant(0), grant(1), grant(2), release(0), release(1), release(2), {2, 1, 0}}
	held := 0
	var on func(l []Entry, more int)
	on = func(l []Entry, more int) {
		if thread, ok := modelHolder(l); ok {
			held++
			wantHolder(t, l, thread)
		} else {
			wantNoHolder(t, l)
		}
		if more == 0 {
			return
		}
		for _, x := range some {
			on(append(l, x), more-1)
		}
	}
	on(nil, 6)
	if held < 1000 {
		t.Errorf("only %d lists have a holder", held)
	}
}

// Grants one behind the other, of all threads, and then all releases but one.
func TestHolderOfManyThreads(t *testing.T) {
	for kept := range 64 {
		var l []Entry
		for thread := range 64 {
			l = append(l, grant(thread))
		}
		for thread := range 64 {
			if thread != kept {
				l = append(l, release(thread))
			}
		}
		wantHolder(t, l, kept)
		wantNoHolder(t, append(l, release(kept)))
	}
}

// P12.1: what is handed in, and what is answered

// Each call of a list that lies in a longer one: neither is written into.
func TestNoListIsWrittenInto(t *testing.T) {
	d := &draws{x: 4}
	for range 50 {
		whole := append(d.entries(20), wrong[d.next(len(wrong))])
		kept := slices.Clone(whole)
		for _, l := range [][]Entry{whole, whole[:10], whole[5:15], whole[3:3]} {
			Text(l)
			Holder(l)
			for _, k := range kinds {
				Count(l, k.kind)
			}
			for thread := -1; thread < 65; thread++ {
				Of(l, thread)
			}
			for _, x := range l {
				Line(x)
			}
		}
		if !slices.Equal(whole, kept) {
			t.Fatalf("the list is %v, want %v", whole, kept)
		}
	}
}

func TestWhatOfAnswersIsItsOwn(t *testing.T) {
	l := []Entry{{1, 7, 0}, {2, 7, 1}, {3, 7, 1}, {1, 8, 2}}
	kept := slices.Clone(l)
	for _, list := range [][]Entry{l, l[:3], l[:1], l[3:]} {
		for _, thread := range []int{7, 8} {
			first, second := Of(list, thread), Of(list, thread)
			want := slices.Clone(second)
			clearWhole(first)
			if !slices.Equal(l, kept) || !slices.Equal(second, want) {
				t.Fatalf("an answer was written into: the list is %v, another answer %v", l, second)
			}
			wantOf(t, list, thread, want...)
		}
	}
	its := Of(l, 7)
	clearWhole(l)
	if !slices.Equal(its, kept[:3]) {
		t.Errorf("the list was written into: the answer is %v", its)
	}
}

func TestWhatParseAnswersIsItsOwn(t *testing.T) {
	text, want := ordinaryText(), ordinaryEntries()
	first, _, _ := Parse(text)
	second, _, _ := Parse(text)
	clearWhole(first)
	if !slices.Equal(second, want) {
		t.Errorf("an answer was written into: another one is %v", second)
	}
	wantText(t, want, ordinaryText())
	clearWhole(append(second, Entry{1, 1, 1}))
	wantText(t, want, ordinaryText())
}

func TestTextIsItsOwn(t *testing.T) {
	l := ordinaryEntries()
	s, _ := Text(l)
	clearWhole(l)
	if s != ordinaryText() {
		t.Errorf("the list was written into: the text is %q", s)
	}
}

// clearWhole writes into all the room that a list has.
func clearWhole(l []Entry) {
	for n := range l[:cap(l)] {
		l[:cap(l)][n] = Entry{-7, -7, -7}
	}
}

func TestAskingTwiceTellsTheSame(t *testing.T) {
	for range 3 {
		for _, o := range ordinary {
			wantNoEntry(t, o.line+" ")
			wantLine(t, o.x, o.line)
		}
		wantNoEntries(t, ordinaryText()+"\n", len(ordinary))
		wantText(t, ordinaryEntries(), ordinaryText())
		wantNoText(t, append(ordinaryEntries(), Entry{}))
		wantHolder(t, []Entry{grant(1), grant(2), release(2)}, 1)
		wantNoHolder(t, []Entry{grant(1), release(1)})
	}
}

// P12.2

func TestParseOfTextIsTheEntries(t *testing.T) {
	d := &draws{x: 5}
	for _, n := range []int{0, 1, 2, 3, 10, 100, 10000} {
		for range 20 {
			l := d.entries(n)
			s, e := Text(l)
			if e != api.OK || strings.Count(s, "\n") != n {
				t.Fatalf("Text of %d entries: error %d, %d ends of lines", n, e, strings.Count(s, "\n"))
			}
			if p, many, e := Parse(s); !slices.Equal(p, l) || many != n || e != api.OK {
				t.Fatalf("Parse of the text of %d entries: %d, error %d, and not the entries", n, many, e)
			}
		}
	}
}

func TestTextOfParseIsTheText(t *testing.T) {
	d := &draws{x: 6}
	for n := range 200 {
		s := ""
		for range n {
			now := strings.TrimLeft(strconv.Itoa(d.next(1<<20)), "0") + strconv.Itoa(d.next(1000))
			s += kinds[d.next(10)].word + " " + strconv.Itoa(d.next(64)) + " " + strconv.Itoa(len(now)) + now + "\n"
		}
		l, many, e := Parse(s)
		if len(l) != n || many != n || e != api.OK {
			t.Fatalf("Parse(%q): %d entries, %d, error %d", short(s), len(l), many, e)
		}
		if back, e := Text(l); back != s || e != api.OK {
			t.Fatalf("Text of Parse of %q is %q, error %d", short(s), short(back), e)
		}
	}
}

// One of each kind, with each number at its edges and one within, both ways; all their lines are unlike.
func TestBothWaysAtTheEdges(t *testing.T) {
	wantText(t, nil, "")
	seen := map[string]bool{}
	for _, thread := range []int{0, 1, 62, 63} {
		for _, now := range []int{0, 1, behindNow - 2, behindNow - 1} {
			var l []Entry
			want := ""
			for _, k := range kinds {
				x, line := Entry{k.kind, thread, now}, fmt.Sprintf("%s %d %d", k.word, thread, now)
				wantText(t, []Entry{x}, line+"\n")
				l, want = append(l, x), want+line+"\n"
				seen[line] = true
			}
			wantText(t, l, want)
		}
	}
	if len(seen) != 160 {
		t.Errorf("there are %d lines, want 160", len(seen))
	}
}

// All entries of each kind and each thread, at some ticks: in one text, both ways.
func TestBothWaysOfManyEntries(t *testing.T) {
	var l []Entry
	var want strings.Builder
	for _, k := range kinds {
		for thread := range 64 {
			for shift := range 41 {
				l = append(l, Entry{k.kind, thread, 1 << shift})
				fmt.Fprintf(&want, "%s %d %d\n", k.word, thread, 1<<shift)
			}
		}
	}
	wantText(t, l, want.String())
}
