package interp_test

import (
	"fmt"
	"slices"
	"strings"
	"testing"
	"unsafe"

	"colophon/api"
	"colophon/emit"
	"colophon/interp"
)

func TestTheChaptersExamples(t *testing.T) {
	shows(t, "")
	shows(t, "q 1 0 0 1 5 5 cm 0 0 -1 2 re f Q", rule(4, 5, 5, 7))
	shows(t, "BT /F1 10 Tf 3 4 Td <0007> Tj 0 -12 Td <0008> Tj ET", text(1, 10, 3, 4, 7), text(1, 10, 3, -8, 8))
	for _, s := range []string{"BT /F0 10 Tf <0001> Tj <0002> Tj ET", "0 0 1 1 re W n", "2 0 0 1 0 0 cm", "q", "f", "01 0 Td", "<01> Tj"} {
		refused(t, "an example", s)
	}
}

// Streams as if by chance.

// author writes streams that are mostly read.
type author struct {
	next  func(below int) int
	words []string
}

func (a *author) write(words ...string) { a.words = append(a.words, words...) }

func (a *author) one(words ...string) string { return words[a.next(len(words))] }

func (a *author) length() string {
	if a.next(150) == 0 {
		return a.one("16777216", "-16777216", "16777215.5", "-8388608.5", "8388608", "-16777215.9999847412109375")
	}
	return a.one("0", "1", "-1", "2", "0.5", "-2.25", "10", "-12", "100.75", "720", "0.0000152587890625", "-0.9999847412109375")
}

func (a *author) font() {
	a.write(a.one("/F0", "/F1", "/F2", "/F9", "/F10", "/F99"), a.one("1", "10", "0.5", "11.25", "0.0000152587890625", "16777216"), "Tf")
}

func (a *author) glyphs() string {
	word := "<"
	for range a.next(4) + 1 {
		word += a.one("0000", "0001", "00ff", "00FF", "aBcD", "1234", "ffff", "FFFF", "8000")
	}
	return word + ">"
}

func (a *author) text() {
	a.write("BT")
	there := true
	for range a.next(7) {
		switch a.next(5) {
		case 0:
			a.font()
		case 1:
			a.write("1", "0", "0", "1", a.length(), a.length(), "Tm")
			there = true
		case 2:
			a.write(a.length(), a.length(), "Td")
			there = true
		default:
			if there || a.next(50) == 0 {
				a.write(a.glyphs(), "Tj")
				there = false
			}
		}
	}
	a.write("ET")
}

func (a *author) rectangle(deep int) {
	a.write(a.length(), a.length(), a.length(), a.length(), "re")
	switch a.next(6) {
	case 0:
		a.write("n")
	case 1, 2:
		a.write("f")
	default:
		if deep > 0 || a.next(50) == 0 {
			a.write("W")
		}
		a.write("n")
	}
}

func (a *author) content(deep int) {
	for range a.next(7) {
		switch a.next(7) {
		case 0:
			a.write("1", "0", "0", "1", a.length(), a.length(), "cm")
		case 1:
			a.font()
		case 2:
			a.text()
		case 3, 4:
			a.rectangle(deep)
		default:
			if deep < 6 {
				a.write("q")
				a.content(deep + 1)
				a.write("Q")
			}
		}
	}
}

// err puts in a fault.
func (a *author) err() {
	at := a.next(len(a.words))
	other := a.one("q", "Q", "cm", "re", "f", "W", "n", "BT", "ET", "Tf", "Tm", "Td", "Tj", "0", "-1", "0.5", "/F3", "<0001>", "-0", "1.0", "/F100", "<00>", "g", "\x00")
	switch a.next(4) {
	case 0:
		a.words = slices.Delete(a.words, at, at+1)
	case 1:
		a.words = slices.Insert(a.words, at, other)
	case 2:
		a.words[at] = other
	default:
		with := a.next(len(a.words))
		a.words[at], a.words[with] = a.words[with], a.words[at]
	}
}

// wordsOf are a stream's.
func wordsOf(seed int) []string {
	a := author{next: numbers(seed)}
	if a.next(8) > 0 {
		a.font()
	}
	a.content(0)
	if len(a.words) > 0 && a.next(4) == 0 {
		a.err()
	}
	return a.words
}

func streamOf(seed int) string { return strings.Join(wordsOf(seed), " ") }

func TestManyStreams(t *testing.T) {
	count := map[api.Errno]int{}
	for seed := range 30000 {
		count[as(t, fmt.Sprint("seed ", seed), streamOf(seed))]++
	}
	if count[api.OK] < 10000 || count[api.ErrContent] < 5000 {
		t.Errorf("%v", count)
	}
}

// Each byte of a stream, left out, doubled, or another one.
func TestEachByte(t *testing.T) {
	const s = "q /F1 10 Tf 1 0 0 1 5.5 -6 cm 1 2 -3 4 re W n BT 3 4 Td <00aB0002> Tj 1 0 0 1 7 8 Tm /F22 0.5 Tf <0003> Tj ET q 0 0 1 1 re f Q Q\n"
	reads(t, "as it is", s)
	for i := range len(s) {
		as(t, "a byte less", s[:i]+s[i+1:])
		as(t, "a byte twice", s[:i]+s[i:i+1]+s[i:])
		as(t, "cut off", s[:i])
		as(t, "from here on", s[i:])
		for _, c := range []byte("\x00\t\n\v\f\r 0159-+./FGfgabTtJjQqWwn<>()[]{}%#\x80\xa0\xff") {
			as(t, "another byte", s[:i]+string([]byte{c})+s[i+1:])
			as(t, "a byte more", s[:i]+string([]byte{c})+s[i:])
		}
	}
}

func TestAnyBytes(t *testing.T) {
	pieces := "qQcmrefWnBTETfTmTdTj/F<>0019.- \n\x00\xff"
	for seed := range 5000 {
		next := numbers(seed)
		s := make([]byte, next(60))
		for i := range s {
			s[i] = pieces[next(len(pieces))]
			if next(10) == 0 {
				s[i] = byte(next(256))
			}
		}
		as(t, fmt.Sprint("seed ", seed), string(s))
	}
}

// P16.2

// someMarks may stand.
func someMarks(next func(below int) int) []api.Mark {
	lengths := []int{0, 1, -1, one, -one, one / 2, 12*one + 3, -98304, top / 2, -top / 2, top - 1, 1 - top, top, -top}
	length := func() int { return lengths[next(len(lengths))] }
	var l []api.Mark
	open := 0
	for range next(15) {
		switch next(4) {
		case 0:
			m := api.Mark{Kind: api.MarkText, Font: next(100), Size: max(1, length()), X: length(), Y: length()}
			for range next(6) + 1 {
				m.Glyphs = append(m.Glyphs, next(65536))
			}
			l = append(l, m)
		case 3:
			if open > 0 {
				open--
				l = append(l, end())
			}
		default:
			m := api.Mark{Kind: api.MarkRule, Box: box(length(), length(), length(), length())}
			m.Box.X1, m.Box.Y1 = max(m.Box.X0, m.Box.X1), max(m.Box.Y0, m.Box.Y1)
			m.Box.X0, m.Box.Y0 = max(m.Box.X0, m.Box.X1-top), max(m.Box.Y0, m.Box.Y1-top)
			if next(2) == 0 {
				m.Kind = api.MarkClip
				open++
			}
			l = append(l, m)
		}
	}
	return append(l, slices.Repeat(list(end()), open)...)
}

// comesBack fails, unless what Emit writes of a list is read as the list.
func comesBack(t *testing.T, what string, l []api.Mark) {
	t.Helper()
	s, err := emit.Emit(l)
	if err != api.OK {
		t.Errorf("%s: Emit(%s): %v", what, tell(l), err)
		return
	}
	shows(t, s, l...)
}

func TestWhatEmitWritesIsReadAsItself(t *testing.T) {
	for seed := range 20000 {
		comesBack(t, fmt.Sprint("seed ", seed), someMarks(numbers(seed)))
	}
	a, e, r := clip(0, 0, 1, 1), end(), rule(0, 0, 1, 1)
	for i, l := range [][]api.Mark{
		nil, list(r), list(a, e), list(a, r, e), list(a, a, e, e), list(a, e, a, e), list(r, a, text(1, 2, 3, 4, 5), a, r, e, text(0, 1, 0, 0, 0), e, r), list(rule(0, 0, 0, 0), clip(5, 5, 5, 5), e),
		append(slices.Repeat(list(a), 32), slices.Repeat(list(e), 32)...), slices.Repeat(list(a, e), 4096), slices.Repeat(list(r), 8192), slices.Repeat(list(text(3, 4, 5, 6, 7, 8)), 8192),
		slices.Repeat(append(slices.Repeat(list(a), 32), slices.Repeat(list(e), 32)...), 128), list(text(0, 1, 0, 0, make([]int, 262135)...)),
	} {
		comesBack(t, fmt.Sprint("list ", i), l)
	}
	for font := range 100 {
		comesBack(t, "a font", list(text(font, 1, 0, 0, 65535-font)))
	}
}

// again fails, unless the marks of a stream, if it is read, may stand, and come
// back from what Emit writes of them.
func again(t *testing.T, what, s string) bool {
	t.Helper()
	l, err := interp.Run(s)
	if err != api.OK {
		return false
	}
	if may := emit.Check(l); may != api.OK {
		t.Errorf("%s: Run(%s) may not stand: %s", what, tell(s), tell(l))
	}
	written, long := emit.Emit(l)
	if back, err := interp.Run(written); long == api.OK && (!emit.Same(back, l) || err != api.OK) {
		t.Errorf("%s: Run(%s) is %s; its text is read as %s, %v", what, tell(s), tell(l), tell(back), err)
	}
	return true
}

func TestWhatIsReadMayStand(t *testing.T) {
	read := 0
	for seed := range 30000 {
		if again(t, fmt.Sprint("seed ", seed), streamOf(seed)) {
			read++
		}
	}
	if read < 10000 {
		t.Errorf("only %d are read", read)
	}
	for what, s := range map[string]string{
		"far out":         "1 0 0 1 16777216 -16777216 cm 0 0 -16777216 16777216 re f /F99 16777216 Tf BT <ffff> Tj ET",
		"rectangles":      "0 0 0 0 re f q 0 0 0 0 re W n Q",
		"32 clips":        "q " + strings.Repeat("0 0 -1 -1 re W n ", 32) + "Q",
		"8192 marks":      strings.Repeat("q 0 0 1 1 re W n Q ", 4096),
		"glyphs":          "/F0 1 Tf BT <" + strings.Repeat("FfFf", 262000) + "> Tj ET",
		"a text too long": "1 0 0 1 -16777215.9999847412109375 -16777215.9999847412109375 cm " + strings.Repeat("0 0 0.9999847412109375 0.9999847412109375 re f ", 8192),
	} {
		if !again(t, what, s) {
			t.Errorf("%s: not read", what)
		}
	}
}

// P16.3

// spaced puts as many blanks as if by chance between words.
func spaced(words []string, next func(below int) int) string {
	var s strings.Builder
	blanks := func(least int) {
		for range least + next(4) {
			s.WriteByte("\t\n\f\r "[next(5)])
		}
	}
	for i, w := range words {
		blanks(min(i, 1))
		s.WriteString(w)
	}
	blanks(0)
	return s.String()
}

func TestHowManyBlanksStandBetween(t *testing.T) {
	read := 0
	for seed := range 15000 {
		words := wordsOf(seed)
		want, err := interp.Run(strings.Join(words, " "))
		next := numbers(seed)
		for _, s := range []string{spaced(words, next), spaced(words, next), strings.Join(words, strings.Repeat("\n", next(100)+1))} {
			if l, got := interp.Run(s); !emit.Same(l, want) || got != err {
				t.Errorf("Run(%s) is %s, %v; asked: %s, %v", tell(s), tell(l), got, tell(want), err)
			}
		}
		if err == api.OK {
			read++
		}
	}
	if read < 5000 {
		t.Errorf("only %d are read", read)
	}
}

// shifted are marks, moved, if they may be there.
func shifted(l []api.Mark, x, y int) ([]api.Mark, bool) {
	l = slices.Clone(l)
	for i, m := range l {
		switch m.Kind {
		case api.MarkText:
			l[i].X, l[i].Y = m.X+x, m.Y+y
		case api.MarkRule, api.MarkClip:
			l[i].Box = box(m.Box.X0+x, m.Box.Y0+y, m.Box.X1+x, m.Box.Y1+y)
		}
	}
	return l, emit.Check(l) == api.OK
}

// wrapped is a stream that is moved.
func wrapped(s string, x, y int) string {
	return "q 1 0 0 1 " + number(x) + " " + number(y) + " cm " + s + " Q"
}

func TestWhatIsMoved(t *testing.T) {
	lengths := []int{0, one, -one, 1, -1, 72*one + one/2, -98304, 1000 * one, -5000*one - 7}
	read := 0
	for seed := range 20000 {
		next := numbers(seed)
		s, x, y := streamOf(seed), lengths[next(len(lengths))], lengths[next(len(lengths))]
		as(t, "moved", wrapped(s, x, y))
		l, err := interp.Run(s)
		want, may := shifted(l, x, y)
		if err != api.OK || !may {
			continue
		}
		// An origin may be out even where no mark is.
		got, err := interp.Run(wrapped(s, x, y))
		if _, well := modelRun(wrapped(s, x, y)); well != api.OK && err == api.ErrContent {
			continue
		}
		if !emit.Same(got, want) || err != api.OK {
			t.Errorf("Run(%s) is %s, %v; asked: %s", tell(wrapped(s, x, y)), tell(got), err, tell(want))
		}
		read++
	}
	if read < 8000 {
		t.Errorf("only %d are moved", read)
	}
}

func TestWhatIsMovedAsFarAsMayBe(t *testing.T) {
	const s = "/F1 10 Tf BT 3 4 Td <0007> Tj 0 -12 Td <0008> Tj ET 1 0 0 1 1 1 cm q 0 0 -3 -4 re W n 1 2 3 4 re f Q"
	l, err := interp.Run(s)
	if err != api.OK {
		t.Fatal(err)
	}
	for _, x := range []int{0, one, -one, 1, -1, 98304, -98304, 16777000 * one, -16777000 * one} {
		for _, y := range []int{0, 7 * one, -7 * one, 3, -3, 16777000 * one, -16777000 * one} {
			want, _ := shifted(l, x, y)
			shows(t, wrapped(s, x, y), want...)
			shows(t, wrapped(wrapped(s, -x, -y), x, y), l...)
			if half, _ := shifted(l, x/2, y/2); x%2 == 0 && y%2 == 0 {
				shows(t, wrapped(s, x/2, y/2), half...)
			}
		}
	}
	for _, far := range [][2]int{{top, 0}, {0, top}, {-top, 0}, {0, -top}, {top - one, 0}, {0, -top + one}} {
		refused(t, "too far", wrapped(s, far[0], far[1]))
	}
	deep := strings.Repeat("q ", 31) + "0 0 1 1 re f " + strings.Repeat("Q ", 31)
	shows(t, wrapped(deep, one, 2*one), rule(1, 2, 2, 3))
	refused(t, "one too deep", wrapped("q "+deep+"Q", one, 2*one))
}

// What may not stand alone may stand in what is moved: a clip at the outermost
// depth, and an end ahead of its beginning.
func TestWhatIsReadOnlyIfItIsMoved(t *testing.T) {
	refused(t, "an end first", "Q q")
	shows(t, wrapped("0 0 1 1 re f Q q 0 0 1 1 re f", one, one), rule(1, 1, 2, 2), rule(0, 0, 1, 1))
	refused(t, "outermost", "0 0 1 1 re W n")
	shows(t, wrapped("0 0 1 1 re W n", one, 2*one), clip(1, 2, 2, 3), end())
	shows(t, wrapped("0 0 1 1 re W n 0 0 2 2 re f", -one, -one), clip(-1, -1, 0, 0), rule(-1, -1, 1, 1), end())
}

// What is told is new memory.

// stretch is the memory of a list with its spare room. It holds a pointer, not a
// number, so that this memory is not freed and given to another answer while
// stretches are gathered.
type stretch struct {
	what string
	at   unsafe.Pointer
	size uintptr
}

func (a stretch) from() uintptr { return uintptr(a.at) }
func (a stretch) to() uintptr   { return uintptr(a.at) + a.size }

func ofList[T any](what string, l []T) stretch {
	var x T
	return stretch{what, unsafe.Pointer(unsafe.SliceData(l)), uintptr(cap(l)) * unsafe.Sizeof(x)}
}

func ofMarks(what string, l []api.Mark) []stretch {
	all := []stretch{ofList(what, l)}
	for i, m := range l[:cap(l)] {
		all = append(all, ofList(fmt.Sprint(what, ", glyphs of ", i), m.Glyphs))
	}
	return all
}

func apart(t *testing.T, l []stretch) {
	t.Helper()
	l = slices.DeleteFunc(l, func(x stretch) bool { return x.size == 0 })
	slices.SortFunc(l, func(a, b stretch) int {
		if a.from() < b.from() {
			return -1
		}
		return 1
	})
	for i := range l[min(1, len(l)):] {
		if l[i].to() > l[i+1].from() {
			t.Errorf("%s and %s share memory", l[i].what, l[i+1].what)
		}
	}
}

func TestAnswersAreNewMemory(t *testing.T) {
	streams := []string{
		"BT /F0 1 Tf <0001> Tj 1 1 Td <0001> Tj 1 1 Td <0001000200030004> Tj ET", "BT /F0 1 Tf <0001> Tj ET BT <0001> Tj ET 0 0 1 1 re f", "q 0 0 1 1 re W n BT /F1 1 Tf <00010002> Tj 1 1 Td <00010002> Tj ET Q",
		"/F0 1 Tf " + strings.Repeat("BT <00010002> Tj ET ", 1000), "/F0 1 Tf BT " + strings.Repeat("<00010002> Tj 1 1 Td ", 1000) + "ET",
	}
	for seed := range 300 {
		streams = append(streams, streamOf(seed))
	}
	for _, s := range streams {
		want, _ := modelRun(s)
		one, _ := interp.Run(s)
		next, _ := interp.Run(s)
		apart(t, append(ofMarks("one answer", one), ofMarks("the next", next)...))
		for i := range one {
			for k := range one[i].Glyphs[:cap(one[i].Glyphs)] {
				one[i].Glyphs[:cap(one[i].Glyphs)][k] = -1
			}
			one[i] = api.Mark{}
			if !emit.Same(one[i+1:], want[i+1:]) {
				t.Errorf("Run(%s): mark %d changes another one", tell(s), i)
			}
		}
		if !emit.Same(next, want) {
			t.Errorf("Run(%s): an answer is changed by another one", tell(s))
		}
	}
}

func TestAnswersHangOnTheArgumentAlone(t *testing.T) {
	for range 50 {
		shows(t, "0 0 1 1 re f", rule(0, 0, 1, 1))
		refused(t, "no font", "BT <0001> Tj ET")
		shows(t, "/F3 1 Tf 1 0 0 1 1 1 cm BT <0001> Tj ET", text(3, 1, 1, 1, 1))
		refused(t, "nothing saved", "Q")
		refused(t, "open", "q q 1 0 0 1 5 5 cm /F1 1 Tf BT")
		refused(t, "operands", "0 0 1 1")
		refused(t, "no rectangle", "f")
		shows(t, "")
	}
}
