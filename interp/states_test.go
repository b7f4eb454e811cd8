package interp_test

import (
	"fmt"
	"slices"
	"strings"
	"testing"

	"colophon/api"
	"colophon/interp"
)

// P16.1: what each operator may come behind, and what it does.

// states are words that lead to each state. In most of them something is saved,
// so that a clip can be begun and ended.
func states() map[string]string {
	return map[string]string{
		"nothing":               "",
		"saved":                 "q",
		"behind Q":              "q Q",
		"font":                  "q /F0 1 Tf",
		"rectangle":             "q 0 0 1 1 re",
		"rectangle and font":    "q /F0 1 Tf 0 0 1 1 re",
		"to clip":               "q 0 0 1 1 re W",
		"to clip and font":      "q /F0 1 Tf 0 0 1 1 re W",
		"behind a rule":         "q 0 0 1 1 re f",
		"behind a clip":         "q 0 0 1 1 re W n",
		"behind n alone":        "q 0 0 1 1 re n",
		"text":                  "q BT",
		"text, outermost":       "BT",
		"text and font":         "q /F0 1 Tf BT",
		"text, font within":     "q BT /F0 1 Tf",
		"nowhere":               "q /F0 1 Tf BT <0001> Tj",
		"nowhere, another font": "q /F0 1 Tf BT <0001> Tj /F1 2 Tf",
		"there by Tm":           "q /F0 1 Tf BT <0001> Tj 1 0 0 1 2 2 Tm",
		"there by Td":           "q /F0 1 Tf BT <0001> Tj 2 2 Td",
		"there, no font":        "q BT 1 0 0 1 2 2 Tm 2 2 Td",
		"behind a text":         "q /F0 1 Tf BT <0001> Tj ET",
	}
}

func idleStates() []string {
	return []string{"nothing", "saved", "behind Q", "font", "behind a rule", "behind a clip", "behind n alone", "behind a text"}
}

func textStates() []string {
	return []string{"text", "text, outermost", "text and font", "text, font within", "nowhere", "nowhere, another font", "there by Tm", "there by Td", "there, no font"}
}

func rectangles() []string { return []string{"rectangle", "rectangle and font"} }

func clippings() []string { return []string{"to clip", "to clip and font"} }

// mayCome tells in which states each operator may come.
func mayCome() map[string][]string {
	return map[string][]string{
		"q": idleStates(), "1 0 0 1 2 3 cm": idleStates(), "0 0 2 2 re": idleStates(), "BT": idleStates(),
		"Q": {"saved", "font", "behind a rule", "behind a clip", "behind n alone", "behind a text"},
		"f": rectangles(), "W": rectangles(), "n": append(rectangles(), clippings()...),
		"/F3 3 Tf": append(idleStates(), textStates()...),
		"ET":       textStates(), "1 0 0 1 4 4 Tm": textStates(), "1 1 Td": textStates(),
		"<0002> Tj": {"text and font", "text, font within", "there by Tm", "there by Td"},
	}
}

// ended tells whether a stream is read with something behind it that ends what
// is begun.
func ended(t *testing.T, s string) bool {
	t.Helper()
	well := false
	for _, open := range []string{"", " ET", " n"} {
		for _, saved := range []string{"", " Q", " Q Q"} {
			if as(t, "ended", s+open+saved) == api.OK {
				well = true
			}
		}
	}
	return well
}

func TestEachOperatorInEachState(t *testing.T) {
	if len(mayCome()) != 13 {
		t.Errorf("%d operators", len(mayCome()))
	}
	for state, ahead := range states() {
		if !ended(t, ahead) {
			t.Errorf("state %q can't be ended", state)
		}
		for operator, well := range mayCome() {
			if got := ended(t, ahead+" "+operator); got != slices.Contains(well, state) {
				t.Errorf("%q in state %q: %v", operator, state, got)
			}
		}
	}
}

// What may not come stays wrong, whatever comes behind it.
func TestTwoOperatorsInEachState(t *testing.T) {
	for state, ahead := range states() {
		for operator, well := range mayCome() {
			for next := range mayCome() {
				if got := ended(t, ahead+" "+operator+" "+next); got && !slices.Contains(well, state) {
					t.Errorf("%q and %q in state %q are read", operator, next, state)
				}
			}
		}
	}
}

// tries goes through all sequences of so many of these words.
func tries(words []string, many int, try func(s string)) {
	if many == 0 {
		try("")
		return
	}
	for _, w := range words {
		tries(words, many-1, func(s string) { try(w + " " + s) })
	}
}

func TestAllShortStreams(t *testing.T) {
	words := []string{"q", "Q", "1 0 0 1 2 3 cm", "0 0 2 2 re", "f", "W", "n", "BT", "ET", "/F3 3 Tf", "1 0 0 1 4 4 Tm", "1 1 Td", "<0002> Tj"}
	count := map[api.Errno]int{}
	for many := range 5 {
		tries(words, many, func(s string) {
			count[as(t, "a short stream", s)]++
			if many < 4 {
				count[as(t, "a short stream in another", "q /F1 1 Tf "+s+"Q")]++
				count[as(t, "a short text", "/F1 1 Tf BT "+s+"ET")]++
			}
		})
	}
	if count[api.OK] < 200 || count[api.ErrContent] < 20000 {
		t.Errorf("%v", count)
	}
}

func TestWhatIsOpenAtTheEnd(t *testing.T) {
	for ahead, behind := range map[string]string{
		"q": "Q", "q q": "Q Q", "q q Q": "Q", "BT": "ET", "q BT ET": "Q", "BT ET BT": "ET", "0 0 1 1 re": "n", "0 0 1 1 re f 0 0 1 1 re": "f", "q 0 0 1 1 re": "f Q", "q 0 0 1 1 re W": "n Q", "q 0 0 1 1 re W n": "Q",
		"/F0 1 Tf BT <0001> Tj": "ET", "0 0 1 1 re f q": "Q", "q q q q": "Q Q Q Q", "q BT": "ET Q", strings.Repeat("q ", 32): strings.Repeat("Q ", 32), strings.Repeat("q 0 0 1 1 re W n ", 32): strings.Repeat("Q ", 32),
	} {
		reads(t, "all is ended", ahead+" "+behind)
		words := strings.Fields(behind)
		for i := range words {
			refused(t, "not all is ended", ahead+" "+strings.Join(words[:i], " "))
		}
		for _, more := range []string{"Q", "ET", "n", "f"} {
			refused(t, "more is ended", ahead+" "+behind+" "+more)
		}
	}
	for _, s := range []string{"0 0 1 1 re W", "0 0 1 1 re W n", "0 0 1 1 re W n Q", "0 0 1 1 re W n q Q", "q Q 0 0 1 1 re W n", "0 0 1 1 re W n q 0 0 1 1 re W n Q", "q 0 0 1 1 re W n Q 0 0 1 1 re W n", "q 0 0 1 1 re W Q n", "q 0 0 1 1 re Q f", "BT q ET Q", "q BT Q ET"} {
		refused(t, "not ended as it may be", s)
	}
}

// Rectangles.

func TestRectangles(t *testing.T) {
	shows(t, "1 2 3 5 re f", rule(1, 2, 4, 7))
	shows(t, "1 2 -3 5 re f", rule(-2, 2, 1, 7))
	shows(t, "1 2 3 -5 re f", rule(1, -3, 4, 2))
	shows(t, "1 2 -3 -5 re f", rule(-2, -3, 1, 2))
	shows(t, "-1 -2 -3 -5 re f", rule(-4, -7, -1, -2))
	shows(t, "0 0 0 0 re f", rule(0, 0, 0, 0))
	shows(t, "4 5 0 0 re f", rule(4, 5, 4, 5))
	shows(t, "4 5 0 -1 re f", rule(4, 4, 4, 5))
	shows(t, "q -1 -2 3 -5 re W n Q", clip(-1, -7, 2, -2), end())
	shows(t, "1 0 0 1 10 20 cm -1 -2 -3 5 re f", rule(6, 18, 9, 23))
	shows(t, "1 0 0 1 10 20 cm q 1 2 3 -5 re W n Q", clip(11, 17, 14, 22), end())
	shows(t, "0 0 1 1 re n")
	shows(t, "0 0 1 1 re n 1 1 1 1 re n 0 0 2 2 re f 5 5 1 1 re n", rule(0, 0, 2, 2))
	// To clip is of one rectangle alone.
	shows(t, "q 0 0 1 1 re W n 0 0 2 2 re f 0 0 3 3 re n Q", clip(0, 0, 1, 1), rule(0, 0, 2, 2), end())
	// A mark is made when its operator comes.
	shows(t, "0 0 1 1 re f BT /F0 1 Tf <0001> Tj ET 0 0 2 2 re f", rule(0, 0, 1, 1), text(0, 1, 0, 0, 1), rule(0, 0, 2, 2))
}

func TestMatrices(t *testing.T) {
	same := strings.Fields("1 0 0 1")
	for i := range same {
		for _, other := range []string{"0", "1", "2", "-1", "0.5", "0.9999847412109375", "1.0000152587890625", "0.0000152587890625", "-0.0000152587890625", "16777216"} {
			matrix := strings.Join(append(append(slices.Clone(same[:i]), other), same[i+1:]...), " ")
			for _, behind := range []string{"0 0", "5 6", "1 1"} {
				may(t, "cm", matrix+" "+behind+" cm", other == same[i])
				may(t, "Tm", "BT "+matrix+" "+behind+" Tm ET", other == same[i])
			}
		}
	}
	for _, matrix := range []string{"0 1 1 0", "0 0 0 0", "-1 0 0 -1", "2 0 0 2", "0 1 -1 0", "1 1 1 1", "1 0 0 0", "0 0 0 1"} {
		refused(t, "cm", matrix+" 0 0 cm")
		refused(t, "Tm", "BT "+matrix+" 0 0 Tm ET")
	}
}

func TestOrigins(t *testing.T) {
	shows(t, "1 0 0 1 2 3 cm 0 0 1 1 re f", rule(2, 3, 3, 4))
	shows(t, "1 0 0 1 2 3 cm 1 0 0 1 10 -20 cm 0 0 1 1 re f", rule(12, -17, 13, -16))
	shows(t, "1 0 0 1 2 3 cm 0 0 1 1 re f 1 0 0 1 -2 -3 cm 0 0 1 1 re f", rule(2, 3, 3, 4), rule(0, 0, 1, 1))
	shows(t, "1 0 0 1 2 3 cm q 1 0 0 1 5 5 cm q 1 0 0 1 100 100 cm 0 0 1 1 re f Q 0 0 1 1 re f Q 0 0 1 1 re f", rule(107, 108, 108, 109), rule(7, 8, 8, 9), rule(2, 3, 3, 4))
	// A text's line begins anew in each text, and moves with the origin.
	shows(t, "/F0 1 Tf 1 0 0 1 2 3 cm BT <0001> Tj 1 1 Td <0002> Tj ET 1 0 0 1 10 10 cm BT <0003> Tj 1 0 0 1 1 1 Tm <0004> Tj ET", text(0, 1, 2, 3, 1), text(0, 1, 3, 4, 2), text(0, 1, 12, 13, 3), text(0, 1, 13, 14, 4))
	// Neither q nor f nor n moves it.
	shows(t, "1 0 0 1 2 3 cm q 0 0 1 1 re f 9 9 1 1 re n 0 0 1 1 re f Q", rule(2, 3, 3, 4), rule(2, 3, 3, 4))
}

func TestWhatQBringsBack(t *testing.T) {
	show := func(glyph int) string { return fmt.Sprintf(" BT <%04x> Tj ET ", glyph) }
	shows(t, "/F1 10 Tf q /F2 20 Tf"+show(1)+"Q"+show(2), text(2, 20, 0, 0, 1), text(1, 10, 0, 0, 2))
	shows(t, "/F1 10 Tf q"+show(1)+"/F2 20 Tf q"+show(2)+"/F3 30 Tf"+show(3)+"Q"+show(4)+"Q"+show(5), text(1, 10, 0, 0, 1), text(2, 20, 0, 0, 2), text(3, 30, 0, 0, 3), text(2, 20, 0, 0, 4), text(1, 10, 0, 0, 5))
	shows(t, "/F1 10 Tf q BT /F2 20 Tf <0001> Tj ET"+show(2)+"Q"+show(3), text(2, 20, 0, 0, 1), text(2, 20, 0, 0, 2), text(1, 10, 0, 0, 3))
	shows(t, "/F1 10 Tf q /F1 20 Tf Q"+show(1)+"q /F2 10 Tf Q"+show(2), text(1, 10, 0, 0, 1), text(1, 10, 0, 0, 2))
	shows(t, "/F1 10 Tf 1 0 0 1 1 2 cm q 1 0 0 1 3 4 cm /F2 20 Tf"+show(1)+"Q"+show(2)+"0 0 1 1 re f", text(2, 20, 4, 6, 1), text(1, 10, 1, 2, 2), rule(1, 2, 2, 3))
	// No font is brought back, too.
	refused(t, "no font", "q /F1 10 Tf Q"+show(1))
	refused(t, "no font", "q q /F1 10 Tf"+show(1)+"Q"+show(1)+"Q")
	refused(t, "no font", "q BT /F1 10 Tf ET Q"+show(1))
	shows(t, "q /F1 10 Tf Q /F2 20 Tf"+show(1), text(2, 20, 0, 0, 1))
	// A font stays from text to text, and may be set outside of one.
	shows(t, "BT /F1 10 Tf ET"+show(1)+show(2)+"/F0 5 Tf"+show(3), text(1, 10, 0, 0, 1), text(1, 10, 0, 0, 2), text(0, 5, 0, 0, 3))
	// Q and q with nothing between change nothing.
	shows(t, "/F1 10 Tf 1 0 0 1 1 2 cm q Q q q Q Q"+show(1), text(1, 10, 1, 2, 1))
	shows(t, "1 0 0 1 1 2 cm q 1 0 0 1 3 4 cm Q 1 0 0 1 5 6 cm q Q 0 0 1 1 re f", rule(6, 8, 7, 9))
	// The last one that was saved is the first to come back, at each depth.
	var s strings.Builder
	var want []api.Mark
	for i := range 32 {
		fmt.Fprintf(&s, "1 0 0 1 1 0 cm /F%d %d Tf q ", i, i+1)
	}
	for i := 31; i >= 0; i-- {
		s.WriteString("1 0 0 1 50 50 cm /F99 99 Tf Q" + show(i))
		want = append(want, text(i, i+1, i+1, 0, i))
	}
	shows(t, s.String(), want...)
}

func TestSizes(t *testing.T) {
	for _, size := range []int{-top, -one, -1, 0, 1, 2, one, 12 * one, top} {
		may(t, "a size", "/F0 "+number(size)+" Tf", size > 0)
		may(t, "a size in a text", "BT /F0 "+number(size)+" Tf ET", size > 0)
		may(t, "a size behind another", "/F0 5 Tf /F0 "+number(size)+" Tf", size > 0)
	}
	for _, s := range []string{"/F0 0 Tf", "/F0 -1 Tf", "/F0 -0.0000152587890625 Tf", "/F0 -0 Tf", "/F0 16777217 Tf", "/F0 5 Tf /F0 0 Tf", "BT /F0 5 Tf 0 0 Td /F0 0 Tf <0001> Tj ET", "q /F0 0 Tf Q", "/F0 0 Tf /F0 1 Tf"} {
		refused(t, "a size", s)
	}
	shows(t, "/F0 0.0000152587890625 Tf BT <0001> Tj ET", api.Mark{Kind: api.MarkText, Size: 1, Glyphs: []int{1}})
	shows(t, "/F99 16777216 Tf BT <0001> Tj ET", text(99, 1<<24, 0, 0, 1))
}

// Texts.

func TestTexts(t *testing.T) {
	shows(t, "BT ET")
	shows(t, "BT ET BT ET q BT ET Q")
	shows(t, "/F1 10 Tf BT ET")
	shows(t, "BT 1 0 0 1 5 6 Tm 7 8 Td ET")
	shows(t, "/F1 10 Tf BT <0001> Tj ET", text(1, 10, 0, 0, 1))
	shows(t, "/F1 10 Tf BT 1 0 0 1 5 6 Tm <0001> Tj ET", text(1, 10, 5, 6, 1))
	shows(t, "/F1 10 Tf BT 5 6 Td <0001> Tj ET", text(1, 10, 5, 6, 1))
	// Td goes on from where the line began, not from where nothing is.
	shows(t, "/F1 10 Tf BT 3 4 Td <0001> Tj 0 -12 Td <0002> Tj 1 -12 Td <0003> Tj ET", text(1, 10, 3, 4, 1), text(1, 10, 3, -8, 2), text(1, 10, 4, -20, 3))
	shows(t, "/F1 10 Tf BT 3 4 Td 5 6 Td 7 8 Td <0001> Tj ET", text(1, 10, 15, 18, 1))
	shows(t, "/F1 10 Tf BT 1 0 0 1 100 200 Tm 5 6 Td <0001> Tj -1 -2 Td <0002> Tj ET", text(1, 10, 105, 206, 1), text(1, 10, 104, 204, 2))
	shows(t, "/F1 10 Tf BT 1 0 0 1 100 200 Tm <0001> Tj 5 6 Td <0002> Tj ET", text(1, 10, 100, 200, 1), text(1, 10, 105, 206, 2))
	shows(t, "/F1 10 Tf BT <0001> Tj 0 0 Td <0002> Tj 0 0 Td <0003> Tj ET", text(1, 10, 0, 0, 1), text(1, 10, 0, 0, 2), text(1, 10, 0, 0, 3))
	// Tm takes the place of all that was ahead of it.
	shows(t, "/F1 10 Tf BT 3 4 Td 1 0 0 1 5 6 Tm <0001> Tj 1 0 0 1 7 8 Tm <0002> Tj 1 0 0 1 9 9 Tm 1 0 0 1 1 1 Tm <0003> Tj ET", text(1, 10, 5, 6, 1), text(1, 10, 7, 8, 2), text(1, 10, 1, 1, 3))
	// Each text begins its line at (0, 0).
	shows(t, "/F1 10 Tf BT 3 4 Td <0001> Tj ET BT <0002> Tj ET BT 1 0 0 1 9 9 Tm ET BT 1 1 Td <0003> Tj ET", text(1, 10, 3, 4, 1), text(1, 10, 0, 0, 2), text(1, 10, 1, 1, 3))
	shows(t, "/F1 10 Tf BT <0001> Tj ET BT <0002> Tj ET", text(1, 10, 0, 0, 1), text(1, 10, 0, 0, 2))
	// A font may change where one is, and before.
	shows(t, "BT 3 4 Td /F1 10 Tf <0001> Tj /F2 20 Tf 1 1 Td /F3 30 Tf <0002> Tj ET", text(1, 10, 3, 4, 1), text(3, 30, 4, 5, 2))
}

func TestNowhere(t *testing.T) {
	for _, s := range []string{
		"BT /F0 10 Tf <0001> Tj <0002> Tj ET", "BT /F0 10 Tf <0001> Tj /F0 10 Tf <0002> Tj ET", "BT /F0 10 Tf 1 1 Td <0001> Tj <0002> Tj ET", "BT /F0 10 Tf 1 0 0 1 1 1 Tm <0001> Tj <0002> Tj ET",
		"BT /F0 10 Tf <0001> Tj 1 1 Td <0002> Tj <0003> Tj ET", "/F0 10 Tf BT <0001> Tj ET <0002> Tj", "/F0 10 Tf BT ET <0002> Tj", "/F0 10 Tf <0002> Tj BT ET",
	} {
		refused(t, "nowhere", s)
	}
	for _, s := range []string{"BT <0001> Tj ET", "BT 1 1 Td <0001> Tj ET", "BT <0001> Tj /F0 1 Tf ET", "BT 1 0 0 1 1 1 Tm <0001> Tj ET", "q BT <0001> Tj ET Q"} {
		refused(t, "no font", s)
	}
}

// Depths and clips.

func nested(ahead, behind string, deep int) string {
	return strings.Repeat(ahead+" ", deep) + strings.Repeat(behind+" ", deep)
}

func TestHowManyStatesAreSaved(t *testing.T) {
	for _, deep := range []int{0, 1, 2, 16, 31, 32, 33, 34, 64, 1000, 100000} {
		may(t, fmt.Sprint(deep, " deep"), nested("q", "Q", deep), deep <= 32)
		may(t, fmt.Sprint(deep, " deep, twice"), nested("q", "Q", deep)+nested("q", "Q", deep), deep <= 32)
		refused(t, fmt.Sprint(deep, " deep, one Q more"), nested("q", "Q", deep)+"Q")
		refused(t, fmt.Sprint(deep, " deep, one q more"), "q "+nested("q", "Q", deep))
		refused(t, fmt.Sprint(deep, " deep, Q first"), nested("Q", "q", deep)+"Q")
	}
	reads(t, "many behind one another", strings.Repeat("q Q ", 1000))
	reads(t, "many 32 deep", strings.Repeat("q ", 31)+strings.Repeat("q Q ", 1000)+strings.Repeat("Q ", 31))
	refused(t, "33 deep in the end", strings.Repeat("q ", 31)+strings.Repeat("q Q ", 1000)+nested("q", "Q", 2)+strings.Repeat("Q ", 31))
}

func TestClips(t *testing.T) {
	a, b, c := clip(0, 0, 1, 1), clip(0, 0, 2, 2), clip(0, 0, 3, 3)
	const wa, wb, wc = "0 0 1 1 re W n ", "0 0 2 2 re W n ", "0 0 3 3 re W n "
	r, wr := rule(5, 5, 6, 6), "5 5 1 1 re f "
	shows(t, "q "+wa+"Q", a, end())
	shows(t, "q "+wr+wa+wr+"Q "+wr, r, a, r, end(), r)
	shows(t, "q "+wa+wb+wc+"Q "+wr, a, b, c, end(), end(), end(), r)
	shows(t, "q "+wa+"q "+wb+"Q "+wr+"Q", a, b, end(), r, end())
	shows(t, "q "+wa+"q "+wb+wc+"Q "+wr+"Q "+wr, a, b, c, end(), end(), r, end(), r)
	shows(t, "q "+wa+"q "+wb+"Q "+wc+"Q", a, b, end(), c, end(), end())
	shows(t, "q "+wa+"q "+wb+"Q "+wr+wc+wr+"Q "+wr, a, b, end(), r, c, r, end(), end(), r)
	shows(t, "q "+wa+"q Q q "+wb+"q q "+wc+wa+"Q Q Q Q", a, b, c, a, end(), end(), end(), end())
	shows(t, "q "+wa+"Q q "+wb+"Q", a, end(), b, end())
	shows(t, "q q q "+wa+"Q "+wr+"Q Q", a, end(), r)
	shows(t, "q q "+wa+"q Q Q "+wr+"Q", a, end(), r)
	for _, s := range []string{wa, "q Q " + wa, wa + "q Q", "q " + wa + "Q " + wa, wa + "Q", wa + "q " + wb + "Q Q", "0 0 1 1 re W n 0 0 1 1 re f"} {
		refused(t, "at the outermost depth", s)
	}
}

func TestHowManyClipsAreOpen(t *testing.T) {
	const w = "0 0 1 1 re W n "
	for _, n := range []int{1, 2, 31, 32, 33, 34, 64, 1000} {
		well := n <= 32
		may(t, fmt.Sprint(n, " at one depth"), "q "+strings.Repeat(w, n)+"Q", well)
		may(t, fmt.Sprint(n, ", each at its own depth"), nested("q "+w, "Q", n), well)
		may(t, fmt.Sprint(n, " and others behind"), "q "+strings.Repeat(w, n)+"Q q "+strings.Repeat(w, 32)+"Q", well)
		may(t, fmt.Sprint(n, " behind others"), "q "+strings.Repeat(w, 32)+"Q q "+strings.Repeat(w, n)+"Q", well)
		may(t, fmt.Sprint(n, ", half of them deeper"), "q "+strings.Repeat(w, n/2)+"q "+strings.Repeat(w, n-n/2)+"Q Q", well)
		may(t, fmt.Sprint(n, ", the last one deeper"), "q "+strings.Repeat(w, n-1)+"q "+w+"Q Q", well)
		may(t, fmt.Sprint(n, ", the last one behind deeper ones"), "q "+strings.Repeat(w, n-1)+"q "+strings.Repeat(w, max(0, 33-n))+"Q "+w+"Q", well)
		reads(t, fmt.Sprint(n, ", ended one by one"), strings.Repeat("q "+w+"Q ", n))
		reads(t, fmt.Sprint(n, " at the innermost depth, ended one by one"), strings.Repeat("q ", 31)+strings.Repeat("q "+w+"Q ", n)+strings.Repeat("Q ", 31))
		reads(t, fmt.Sprint(n, " that are none"), "q "+strings.Repeat(w, 32)+strings.Repeat("0 0 1 1 re n 0 0 1 1 re f ", n)+"Q")
	}
}

// How many marks there are.

func TestHowManyMarks(t *testing.T) {
	for what, s := range map[string]string{"rules": "0 0 1 1 re f ", "texts": "BT /F0 1 Tf <0001> Tj ET "} {
		for _, n := range []int{8190, 8191, 8192, 8193, 8194, 20000} {
			may(t, fmt.Sprint(n, " ", what), strings.Repeat(s, n), n <= 8192)
		}
	}
	const pair = "q 0 0 1 1 re W n Q "
	const rules = "0 0 1 1 re f "
	reads(t, "8192 clips and ends", strings.Repeat(pair, 4096))
	refused(t, "8194 clips and ends", strings.Repeat(pair, 4097))
	refused(t, "a rule more", strings.Repeat(pair, 4096)+rules)
	refused(t, "a rule more ahead", rules+strings.Repeat(pair, 4096))
	for _, n := range []int{1, 2, 31, 32} {
		clips := strings.Repeat("0 0 1 1 re W n ", n)
		reads(t, "ends are the last ones", strings.Repeat(rules, 8192-2*n)+"q "+clips+"Q")
		refused(t, "an end is one too many", strings.Repeat(rules, 8193-2*n)+"q "+clips+"Q")
		reads(t, "ends are the last ones", "q "+clips+strings.Repeat(rules, 8192-2*n)+"Q")
		refused(t, "an end is one too many", "q "+clips+strings.Repeat(rules, 8193-2*n)+"Q")
		refused(t, "all ends are too many", "q "+clips+strings.Repeat(rules, 8192-n)+"Q")
	}
	reads(t, "what makes none", strings.Repeat(rules, 8192)+strings.Repeat("0 0 1 1 re n q Q BT ET ", 1000))
	refused(t, "one more, far behind", strings.Repeat(rules, 8192)+strings.Repeat("0 0 1 1 re n q Q BT ET ", 1000)+rules)
	if l, err := interp.Run(strings.Repeat(rules, 8192)); len(l) != 8192 || err != api.OK {
		t.Errorf("%d marks, %v", len(l), err)
	}
}

// Sums.

// sums are streams in which two numbers are added, and must be in.
func sums() []string {
	return []string{
		"1 0 0 1 # 0 cm 1 0 0 1 @ 0 cm", "1 0 0 1 0 # cm 1 0 0 1 0 @ cm", // origins
		"1 0 0 1 # 0 cm @ 0 0 0 re f", "1 0 0 1 0 # cm 0 @ 0 0 re f", "1 0 0 1 # 0 cm @ 0 0 0 re n", "1 0 0 1 0 # cm 0 @ 0 0 re n", // a rectangle's corner
		"q 1 0 0 1 # 0 cm @ 0 0 0 re W n Q", "q 1 0 0 1 0 # cm 0 @ 0 0 re W n Q",
		"# 0 @ 0 re f", "0 # 0 @ re f", "# 0 @ 0 re n", "q 0 # 0 @ re W n Q", // its other corner
		"1 0 0 1 # 0 cm 0 0 @ 0 re f", "1 0 0 1 0 # cm 0 0 0 @ re f", "q 1 0 0 1 # 0 cm 0 0 @ 0 re W n Q",
		"BT # 0 Td @ 0 Td ET", "BT 0 # Td 0 @ Td ET", "BT 1 0 0 1 # 0 Tm @ 0 Td ET", "BT 1 0 0 1 0 # Tm 0 @ Td ET", // lines
		"1 0 0 1 # 0 cm BT /F0 1 Tf 1 0 0 1 @ 0 Tm <0001> Tj ET", "1 0 0 1 0 # cm BT /F0 1 Tf 0 @ Td <0001> Tj ET", // texts
	}
}

func putTwo(spot string, a, b int) string {
	return strings.NewReplacer("#", number(a), "@", number(b)).Replace(spot)
}

func TestSumsJustInAndOut(t *testing.T) {
	edges := []int{-top, 1 - top, -top / 2, -top/2 - 1, -one, -1, 0, 1, one, top / 2, top/2 + 1, top - 1, top}
	for _, a := range edges {
		for _, b := range edges {
			for _, spot := range sums() {
				may(t, "a sum", putTwo(spot, a, b), a+b >= -top && a+b <= top)
			}
		}
	}
}

// Where a line begins may be far out from the origin, if nothing is shown there.
func TestSumsThatAreNotMade(t *testing.T) {
	const far = "1 0 0 1 16777216 16777216 cm "
	shows(t, far+"BT 1 0 0 1 16777216 16777216 Tm ET")
	shows(t, far+"BT 16777216 16777216 Td ET")
	shows(t, far+"BT /F0 1 Tf 16777216 16777216 Td -16777216 -16777216 Td <0001> Tj ET", text(0, 1, 1<<24, 1<<24, 1))
	refused(t, "shown", far+"BT /F0 1 Tf 16777216 16777216 Td <0001> Tj ET")
	refused(t, "shown", far+"BT /F0 1 Tf 0.0000152587890625 0 Td <0001> Tj ET")
	refused(t, "shown", far+"BT /F0 1 Tf 0 0.0000152587890625 Td <0001> Tj ET")
	shows(t, far+"BT /F0 1 Tf -0.0000152587890625 -16777216 Td <0001> Tj ET", api.Mark{Kind: api.MarkText, Size: one, X: top - 1, Glyphs: []int{1}})
	shows(t, far+"q 1 0 0 1 -16777216 -16777216 cm 0 0 1 1 re f Q", rule(0, 0, 1, 1))
}

// A corner is a sum of its own, ahead of the origin.
func TestCornersThatAreOutOnTheWay(t *testing.T) {
	for _, axis := range []string{"# 0 @ 0", "0 # 0 @"} {
		for _, origin := range []int{-top, -1, 0, 1, top} {
			for _, x := range []int{-top, -one, 0, one, top} {
				for _, w := range []int{-top, -1, 0, 1, top} {
					ahead := "1 0 0 1 " + number(origin) + " " + number(origin) + " cm "
					may(t, "a corner", ahead+putTwo(axis, x, w)+" re f", modelIn(x+w, origin+x, origin+x+w))
				}
			}
		}
	}
	refused(t, "out ahead of the origin", "1 0 0 1 -16777216 0 cm 16777216 0 1 0 re f")
	refused(t, "out ahead of the origin", "1 0 0 1 0 16777216 cm 0 -16777216 0 -1 re f")
}

func TestSides(t *testing.T) {
	shows(t, "-16777216 0 16777216 0 re f", rule(-1<<24, 0, 0, 0))
	shows(t, "0 16777216 0 -16777216 re f", rule(0, 0, 0, 1<<24))
	shows(t, "-8388608 -8388608 16777216 16777216 re f", rule(-1<<23, -1<<23, 1<<23, 1<<23))
	shows(t, "8388608 8388608 -16777216 -16777216 re f", rule(-1<<23, -1<<23, 1<<23, 1<<23))
	for _, s := range []string{"-16777216 0 16777217 0 re f", "-16777216 0 33554432 0 re f", "0 -8388609 0 16777217 re f", "16777216 0 -33554432 0 re f", "-10000000 0 20000000 0 re f", "0 16777216 0 -16777216.0000152587890625 re f"} {
		refused(t, "too long a side", s)
	}
}

// Sums that go far out and come back are out on the way, even where a number
// that has turned round would be small again.
func TestSumsFarOut(t *testing.T) {
	for _, n := range []int{2, 3, 100, 20000} {
		for there, back := range map[string]string{
			"1 0 0 1 16777216 0 cm ": "1 0 0 1 -16777216 0 cm ", "1 0 0 1 0 -16777216 cm ": "1 0 0 1 0 16777216 cm ",
			"1 0 0 1 -16777216 -1 cm ": "1 0 0 1 16777216 1 cm ",
		} {
			refused(t, "origins", strings.Repeat(there, n)+strings.Repeat(back, n))
			if n < 1000 {
				shows(t, strings.Repeat(there+back, n)+"0 0 1 1 re f", rule(0, 0, 1, 1))
			}
		}
		for there, back := range map[string]string{"16777216 0 Td ": "-16777216 0 Td ", "0 -16777216 Td ": "0 16777216 Td "} {
			refused(t, "lines", "BT "+strings.Repeat(there, n)+strings.Repeat(back, n)+"ET")
			shows(t, "BT /F0 1 Tf "+strings.Repeat(there+back, n)+"<0001> Tj ET", text(0, 1, 0, 0, 1))
		}
	}
	shows(t, strings.Repeat("1 0 0 1 8388608 0 cm ", 2)+"0 0 0 0 re f", rule(1<<24, 0, 1<<24, 0))
	refused(t, "one more", strings.Repeat("1 0 0 1 8388608 0 cm ", 2)+"1 0 0 1 0.0000152587890625 0 cm 1 0 0 1 -1 0 cm")
}
