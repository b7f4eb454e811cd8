package emit_test

import (
	"fmt"
	"runtime"
	"slices"
	"strings"
	"testing"
	"unsafe"

	"colophon/api"
	"colophon/emit"
)

// P15.2

func TestTheChaptersExamples(t *testing.T) {
	m := api.Mark{Kind: api.MarkText, Size: 12 * one, X: 72 * one, Y: 720*one + one/2, Glyphs: []int{1, 255}}
	written(t, "a text", "BT\n/F0 12 Tf\n1 0 0 1 72 720.5 Tm\n<000100ff> Tj\nET\n", m)
	written(t, "a rule", "0 0 1 0.5 re\nf\n", rule(0, 0, 65536, 32768))
	refused(t, "an end alone", list(end()))
	refused(t, "a clip without its end", list(clip(0, 0, 1, 1)))
}

func TestTheLinesOfEachKind(t *testing.T) {
	m := api.Mark{Kind: api.MarkText, Font: 7, Size: 10*one + one/4, X: 3 * one, Y: -4 * one, Glyphs: []int{0, 9, 10, 15, 16, 4660, 43981, 61680, 65535}}
	r, c := rule(one, 2*one, 4*one, 8*one), clip(5*one, 6*one, 12*one, 14*one)
	shown := "BT\n/F7 10.25 Tf\n1 0 0 1 3 -4 Tm\n<00000009000a000f00101234abcdf0f0ffff> Tj\nET\n"
	written(t, "a text", shown, m)
	written(t, "a rule", "1 2 3 6 re\nf\n", r)
	written(t, "a clip and its end", "q\n5 6 7 8 re\nW n\nQ\n", c, end())
	written(t, "all", "1 2 3 6 re\nf\nq\n5 6 7 8 re\nW n\n"+shown+"Q\n"+shown+shown, r, c, m, end(), m, m)
	written(t, "clips in clips", "q\n5 6 7 8 re\nW n\nq\n0 0 0 0 re\nW n\nQ\nq\n5 6 7 8 re\nW n\nQ\nQ\n", c, clip(0, 0, 0, 0), end(), c, end(), end())
	written(t, "boxes of nothing", "0 0 0 0 re\nf\n7 7 0 0 re\nf\n0 5 9 0 re\nf\n", rule(0, 0, 0, 0), rule(7*one, 7*one, 7*one, 7*one), rule(0, 5*one, 9*one, 5*one))
}

func TestEachFontIsWrittenInDigits(t *testing.T) {
	for font := range 100 {
		m := changed(text(1), func(m *api.Mark) { m.Font = font })
		written(t, "a font", fmt.Sprint("BT\n/F", font, " 1 Tf\n1 0 0 1 0 0 Tm\n<0001> Tj\nET\n"), m)
	}
}

func TestEachGlyphIsWrittenInFourDigits(t *testing.T) {
	var all []int
	var want strings.Builder
	for g := range 65536 {
		all = append(all, g)
		fmt.Fprintf(&want, "%04x", g)
	}
	written(t, "all glyphs", "BT\n/F0 1 Tf\n1 0 0 1 0 0 Tm\n<"+want.String()+"> Tj\nET\n", text(all...))
	slices.Reverse(all)
	stands(t, "the last one first", list(text(all...)))
	written(t, "one twice", "BT\n/F0 1 Tf\n1 0 0 1 0 0 Tm\n<000700070007> Tj\nET\n", text(7, 7, 7))
}

// lengths are texts of lengths, from the least to the greatest.
func lengths() map[int]string {
	return map[int]string{
		-top: "-16777216", 1 - top: "-16777215.9999847412109375", -98304: "-1.5", -one: "-1", 1 - one: "-0.9999847412109375", -one / 2: "-0.5", -1: "-0.0000152587890625",
		0: "0", 1: "0.0000152587890625", one - 1: "0.9999847412109375", one: "1", one + 1: "1.0000152587890625", 98304: "1.5", 10 * one: "10", 100*one + 3*one/4: "100.75", top - 1: "16777215.9999847412109375", top: "16777216",
	}
}

// fractions are of one to sixteen digits.
func fractions() []string {
	return []string{
		"0.5", "0.25", "0.125", "0.0625", "0.03125", "0.015625", "0.0078125", "0.00390625", "0.001953125", "0.0009765625", "0.00048828125",
		"0.000244140625", "0.0001220703125", "0.00006103515625", "0.000030517578125", "0.0000152587890625",
	}
}

// lengthIs fails, unless a length is written so in each place that takes it.
func lengthIs(t *testing.T, x int, want string) {
	t.Helper()
	what := fmt.Sprint("length ", x)
	written(t, what, "BT\n/F0 1 Tf\n1 0 0 1 "+want+" 0 Tm\n<0001> Tj\nET\n", changed(text(1), func(m *api.Mark) { m.X = x }))
	written(t, what, "BT\n/F0 1 Tf\n1 0 0 1 0 "+want+" Tm\n<0001> Tj\nET\n", changed(text(1), func(m *api.Mark) { m.Y = x }))
	written(t, what, want+" 0 0 0 re\nf\n", rule(x, 0, x, 0))
	written(t, what, "0 "+want+" 0 0 re\nf\n", rule(0, x, 0, x))
	written(t, what, "q\n"+want+" "+want+" 0 0 re\nW n\nQ\n", clip(x, x, x, x), end())
	if x < 0 {
		return
	}
	written(t, what, "0 0 "+want+" 0 re\nf\n", rule(0, 0, x, 0))
	written(t, what, "0 0 0 "+want+" re\nf\n", rule(0, 0, 0, x))
	written(t, what, "q\n-1 0 "+want+" "+want+" re\nW n\nQ\n", clip(-one, 0, x-one, x), end())
	if x > 0 {
		written(t, what, "BT\n/F0 "+want+" Tf\n1 0 0 1 0 0 Tm\n<0001> Tj\nET\n", changed(text(1), func(m *api.Mark) { m.Size = x }))
	}
}

func TestLengths(t *testing.T) {
	for x, want := range lengths() {
		lengthIs(t, x, want)
	}
	for i, want := range fractions() {
		lengthIs(t, one>>(i+1), want)
		lengthIs(t, -one>>(i+1), "-"+want)
		lengthIs(t, 9*one+one>>(i+1), "9"+want[1:])
	}
}

// A side is what lies between two numbers, not the second one.
func TestSides(t *testing.T) {
	written(t, "below 0", "-9 -8 4 6 re\nf\n", rule(-9*one, -8*one, -5*one, -2*one))
	written(t, "over 0", "-9 -8 14 10 re\nf\n", rule(-9*one, -8*one, 5*one, 2*one))
	written(t, "the longest", "-16777216 -8388608 16777216 16777216 re\nf\n", rule(-top, -top/2, 0, top/2))
	written(t, "the longest, above 0", "0 0 16777216 16777216 re\nf\n", rule(0, 0, top, top))
	written(t, "one less", "-16777216 -16777215.9999847412109375 16777215.9999847412109375 16777215.9999847412109375 re\nf\n", rule(-top, 1-top, -1, 0))
	written(t, "of halves", "q\n0.5 -0.5 0.25 1 re\nW n\nQ\n", clip(one/2, -one/2, 3*one/4, one/2), end())
}

// How long texts may be.

const plain = 36 // bytes of a text beside its glyphs, with numbers of one digit each

// sized is a text of just so many bytes.
func sized(n int) api.Mark {
	wide := []int{1, 10, 100, 1000}[n%4] // as a number, one to four digits
	m := text(make([]int, (n-plain-n%4)/4)...)
	m.X = wide * one
	return m
}

func TestJustAsLongAsTextsMayBe(t *testing.T) {
	for n := plain + 4; n < 200; n++ {
		if s, _ := emit.Emit(list(sized(n))); len(s) != n {
			t.Errorf("%d bytes, not %d", len(s), n)
		}
	}
	const most = 1 << 20
	for _, x := range []int{-100, -5, -4, -3, -2, -1, 0} {
		stands(t, fmt.Sprint("one text, ", x), list(sized(most+x)))
	}
	for _, x := range []int{1, 2, 3, 4, 5, 6, 7, 8, 35, 36, 37, 100, most} {
		long(t, fmt.Sprint("one text, ", x), list(sized(most+x)))
	}
	if s, err := emit.Emit(list(sized(most))); len(s) != most || err != api.OK {
		t.Errorf("%d bytes, %v", len(s), err)
	}
}

// The last byte may be of any kind of mark.
func TestWhatComesLast(t *testing.T) {
	const most = 1 << 20
	r, c := rule(0, 0, 0, 0), clip(0, 0, 0, 0) // 13 and 17 bytes, with an end 19
	for _, x := range []int{-1, 0, 1, 2, 12, 13, 20} {
		fits := stands
		if x > 0 {
			fits = long
		}
		fits(t, fmt.Sprint("a rule last, ", x), list(sized(most-13+x), r))
		fits(t, fmt.Sprint("rules last, ", x), append(list(sized(most-1300+x)), slices.Repeat(list(r), 100)...))
		fits(t, fmt.Sprint("a text last, ", x), list(sized(5000), sized(most-5000+x)))
		fits(t, fmt.Sprint("a small text last, ", x), list(sized(most-50+x), sized(50)))
		fits(t, fmt.Sprint("a clip and its end last, ", x), list(sized(most-19+x), c, end()))
		fits(t, fmt.Sprint("an end last, ", x), list(c, sized(most-19+x), end()))
		fits(t, fmt.Sprint("ends last, ", x), slices.Concat(slices.Repeat(list(c), 32), list(sized(most-32*19+x)), slices.Repeat(list(end()), 32)))
		fits(t, fmt.Sprint("many a text, ", x), append(slices.Repeat(list(sized(128)), 8191), sized(128+x)))
	}
}

func TestFarTooLong(t *testing.T) {
	shared := make([]int, 1<<18)
	long(t, "one", list(text(shared...)))
	long(t, "the first of two", list(text(shared...), text(1)))
	long(t, "the last of two", list(text(1), text(shared...)))
	half := make([]int, 1<<17)
	long(t, "two halves", list(text(half...), text(half...)))
	// Together 512 MiB of text, if it were written out.
	shortly(t, "many", slices.Repeat(list(text(shared...)), 512))
	// And 64 MiB of one mark alone.
	shortly(t, "one", list(text(make([]int, 1<<24)...)))
}

// shortly fails, unless a list is found too long without its text being written
// out.
func shortly(t *testing.T, what string, l []api.Mark) {
	t.Helper()
	var ahead, behind runtime.MemStats
	runtime.ReadMemStats(&ahead)
	s, err := emit.Emit(l)
	runtime.ReadMemStats(&behind)
	if s != "" || err != api.ErrLong {
		t.Errorf("%s: %s, %v", what, tell(s), err)
	}
	if taken := behind.TotalAlloc - ahead.TotalAlloc; taken > 16<<20 {
		t.Errorf("%s: %d bytes are taken on the way", what, taken)
	}
}

func TestWhatMayNotStandComesAheadOfLength(t *testing.T) {
	far := text(make([]int, 1<<18)...)
	for i, l := range [][]api.Mark{
		{far, {}}, {{}, far}, {far, text()}, {far, text(65536)}, {far, end()}, {end(), far}, {far, clip(0, 0, 1, 1)}, {clip(0, 0, 1, 1), far}, {far, far, rule(1, 0, 0, 0)}, {far, rule(-top, 0, top, 0)},
		append(list(far), nested(33)...), append(nested(33), far), slices.Repeat(list(sized(129)), 8193), append(slices.Repeat(list(sized(200)), 8191), text(-1)),
	} {
		refused(t, fmt.Sprint("list ", i), l)
	}
	for name, change := range others() {
		if strings.HasSuffix(name, "0") || strings.HasSuffix(name, "1") || name == "Size" {
			refused(t, name, list(changed(far, func(m *api.Mark) { change(m, -1) })))
		}
	}
	refused(t, "the last glyph", list(changed(far, func(m *api.Mark) { m.Glyphs[1<<18-1] = -1 })))
}

// Lists as if by chance.

// someMark is mostly one that may be.
func someMark(next func(below int) int) api.Mark {
	edges := []int{0, 1, -1, one, -one / 2, 12 * one, 98304, top / 2, -top / 2, top, -top, top + 1, -top - 1, least, most}
	usual := func() int {
		if next(40) == 0 {
			return edges[next(len(edges))]
		}
		return edges[next(7)]
	}
	m := api.Mark{Kind: next(4) + 1}
	switch m.Kind {
	case api.MarkText:
		m.Font, m.Size, m.X, m.Y = next(100), next(20*one)+1, usual(), usual()
		for range next(5) + 1 {
			m.Glyphs = append(m.Glyphs, next(65536))
		}
	case api.MarkRule, api.MarkClip:
		x, y := usual(), usual()
		m.Box = box(x, y, x+next(99*one), y+next(99*one))
	}
	if next(200) == 0 {
		m.Kind = next(7) - 1
	}
	for _, name := range []string{"Font", "Size", "X", "Y", "X0", "Y0", "X1", "Y1"} {
		if next(1000) == 0 {
			others()[name](&m, edges[next(len(edges))])
		}
	}
	return m
}

// someList has ends for most of its clips.
func someList(next func(below int) int) []api.Mark {
	var l []api.Mark
	open := 0
	for range next(12) {
		m := someMark(next)
		if m.Kind == api.MarkEnd && open == 0 && next(10) > 0 {
			continue
		}
		open += map[int]int{api.MarkClip: 1, api.MarkEnd: -1}[m.Kind]
		l = append(l, m)
	}
	for range max(open, 0) {
		l = append(l, end())
	}
	if next(20) == 0 && len(l) > 0 {
		at := next(len(l))
		l = slices.Delete(l, at, at+1)
	}
	return l
}

func TestManyLists(t *testing.T) {
	count := map[api.Errno]int{}
	for seed := range 40000 {
		count[as(t, fmt.Sprint("seed ", seed), someList(numbers(seed)))]++
	}
	if count[api.OK] < 10000 || count[api.ErrMark] < 5000 {
		t.Errorf("%v", count)
	}
}

func TestOneListBehindAnother(t *testing.T) {
	var last []api.Mark
	both := 0
	for seed := range 20000 {
		l := someList(numbers(seed))
		ahead, err := emit.Emit(last)
		behind, also := emit.Emit(l)
		s, all := emit.Emit(slices.Concat(last, l))
		if err == api.OK && also == api.OK {
			both++
			if s != ahead+behind || all != api.OK {
				t.Errorf("seed %d: %s, %v; asked: %s and %s", seed, tell(s), all, tell(ahead), tell(behind))
			}
		}
		last = l
	}
	if both < 2000 {
		t.Errorf("only %d", both)
	}
	half := list(sized(1 << 19))
	written(t, "two halves", strings.Repeat(modelLines(half[0]), 2), slices.Concat(half, half)...)
}

// What is handed in is not changed, and nothing told is shared.

// filled is a list with spare room that has something in it.
func filled[T any](l []T, more ...T) []T {
	return append(slices.Clone(l), more...)[:len(l)]
}

// roomOf is a list with its spare room.
func roomOf[T any](l []T) []T { return l[:cap(l)] }

func TestNothingIsChanged(t *testing.T) {
	lists := [][]api.Mark{nil, variants(), nested(32), nested(33), list(sized(1 << 20)), list(sized(1<<20 + 1)), list(text(3, 4, 5), rule(0, 0, 1, 1), text(70000, 1), text())}
	for seed := range 300 {
		lists = append(lists, someList(numbers(seed)))
	}
	for i, l := range lists {
		want, err := modelEmit(l)
		l = filled(twin(l), text(9), end(), clip(9, 9, 0, 0))
		for k := range roomOf(l) {
			roomOf(l)[k].Glyphs = filled(roomOf(l)[k].Glyphs, -1, 65536, 7)
		}
		was := twin(roomOf(l))
		for k := range was {
			was[k].Glyphs = slices.Clone(roomOf(roomOf(l)[k].Glyphs))
		}
		emit.Check(l)
		s, got := emit.Emit(l)
		emit.Same(l, l)
		emit.Same(l, twin(l))
		if s != want || got != err {
			t.Errorf("list %d: %s, %v; asked: %s, %v: its spare room is read", i, tell(s), got, tell(want), err)
		}
		now := slices.Clone(roomOf(l))
		for k := range now {
			now[k].Glyphs = roomOf(now[k].Glyphs)
		}
		if !slices.EqualFunc(now, was, func(a, b api.Mark) bool { return tellWhole(a) == tellWhole(b) }) {
			t.Errorf("list %d is changed: %s", i, tell(l))
		}
	}
}

func tellWhole(m api.Mark) string { return fmt.Sprintf("%+v", m) }

func TestTextsAreNewMemory(t *testing.T) {
	for _, l := range [][]api.Mark{list(text(1)), list(rule(0, 0, 1, 1)), nested(1), nested(32), list(sized(1 << 20))} {
		a, _ := emit.Emit(l)
		b, _ := emit.Emit(l)
		if a != b || unsafe.StringData(a) == unsafe.StringData(b) {
			t.Errorf("%s: two texts share memory", tell(l))
		}
	}
}

func TestAnswersHangOnTheArgumentsAlone(t *testing.T) {
	for range 100 {
		written(t, "again", "BT\n/F0 1 Tf\n1 0 0 1 0 0 Tm\n<0001> Tj\nET\n", text(1))
		refused(t, "again", list(text(1), clip(0, 0, 1, 1)))
		written(t, "again", "q\n0 0 1 0 re\nW n\nQ\n", clip(0, 0, one, 0), end())
		refused(t, "again", list(end()))
		written(t, "again", "")
	}
	long(t, "long", list(sized(1<<20+1)))
	stands(t, "behind a long one", list(sized(1<<20)))
}
