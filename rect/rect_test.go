package rect

import (
	"math"
	"math/big"
	"slices"
	"testing"

	"colophon/api"
)

const (
	top   = api.MaxSp
	least = math.MinInt
	most  = math.MaxInt
)

var none = api.Rect{}

func r(x0, y0, x1, y1 int) api.Rect { return api.Rect{X0: x0, Y0: y0, X1: x1, Y1: y1} }

// is holds an answer to what is asked; with false that is the zero rectangle.
func is(t *testing.T, what string, args any, got api.Rect, ok bool, want api.Rect, may bool) {
	t.Helper()
	if !may {
		want = none
	}
	if got != want || ok != may {
		t.Errorf("%s of %v: %v, %v; asked: %v, %v", what, args, got, ok, want, may)
	}
}

// edges are the numbers near which something changes.
func edges() []int {
	return []int{least, least + 1, -2 * top, -top - 1, -top, -top + 1, -1, 0, 1, top - 1, top, top + 1, 2 * top, most - 1, most}
}

// inEdges are the ones of them that are in.
func inEdges() []int {
	return slices.DeleteFunc(edges(), func(x int) bool { return x < -top || x > top })
}

// rects are all rectangles with numbers of the list, those that may not be too.
func rects(numbers []int) []api.Rect {
	var l []api.Rect
	for _, x0 := range numbers {
		for _, y0 := range numbers {
			for _, x1 := range numbers {
				for _, y1 := range numbers {
					l = append(l, r(x0, y0, x1, y1))
				}
			}
		}
	}
	return l
}

// wrong are rectangles that may not be, each for one reason.
func wrong() []api.Rect {
	return []api.Rect{
		r(1, 0, 0, 0), r(0, 1, 0, 0), r(5, 5, 4, 6), r(5, 5, 6, 4), r(2, 2, 1, 1),
		r(top, 0, -top, 0), r(0, top, 0, -top),
		r(-top-1, 0, 0, 0), r(0, -top-1, 0, 0), r(0, 0, top+1, 0), r(0, 0, 0, top+1),
		r(top+1, 0, top+1, 0), r(0, top+1, 0, top+1), r(-top-1, 0, -top-1, 0), r(0, -top-1, 0, -top-1),
		r(least, 0, 0, 0), r(0, least, 0, 0), r(0, 0, most, 0), r(0, 0, 0, most),
		r(least, least, most, most), r(most, most, least, least), r(least, 0, least, 0), r(0, most, 0, most),
	}
}

// whole is a rectangle's four numbers without bounds, so that no sum wraps.
func whole(a api.Rect, dx0, dy0, dx1, dy1 int) [4]*big.Int {
	sum := func(x, d int) *big.Int { return new(big.Int).Add(big.NewInt(int64(x)), big.NewInt(int64(d))) }
	return [4]*big.Int{sum(a.X0, dx0), sum(a.Y0, dy0), sum(a.X1, dx1), sum(a.Y1, dy1)}
}

// asked is the rectangle of four true numbers, and whether it may be.
func asked(n [4]*big.Int) (api.Rect, bool) {
	bound := big.NewInt(top)
	for _, x := range n {
		if x.CmpAbs(bound) > 0 {
			return none, false
		}
	}
	if n[0].Cmp(n[2]) > 0 || n[1].Cmp(n[3]) > 0 {
		return none, false
	}
	return r(int(n[0].Int64()), int(n[1].Int64()), int(n[2].Int64()), int(n[3].Int64())), true
}

// P3.1

func TestMay(t *testing.T) {
	for _, x := range []api.Rect{
		none, r(1, 2, 3, 4), r(-4, -3, -2, -1), r(-1, -1, 1, 1),
		r(7, 7, 7, 7), r(0, 5, 9, 5), r(5, 0, 5, 9), // a point, and lines
		r(-top, -top, top, top), r(top, top, top, top), r(-top, -top, -top, -top),
		r(-top, 0, 0, 0), r(0, -top, 0, 0), r(0, 0, top, 0), r(0, 0, 0, top),
	} {
		if !May(x) {
			t.Errorf("May(%v) is false", x)
		}
	}
	for _, x := range wrong() {
		if May(x) {
			t.Errorf("May(%v) is true", x)
		}
	}
}

func TestMayAtAllEdges(t *testing.T) {
	for _, x := range rects(edges()) {
		if _, want := asked(whole(x, 0, 0, 0, 0)); May(x) != want {
			t.Errorf("May(%v) is %v", x, !want)
		}
	}
}

func TestOf(t *testing.T) {
	for _, x := range []struct {
		in, want api.Rect
		ok       bool
	}{
		{r(5, 0, 1, 9), r(1, 0, 5, 9), true},
		{r(1, 0, 5, 9), r(1, 0, 5, 9), true},
		{r(1, 9, 5, 0), r(1, 0, 5, 9), true},
		{r(5, 9, 1, 0), r(1, 0, 5, 9), true},
		{r(3, 3, 3, 3), r(3, 3, 3, 3), true},
		{r(3, 8, 3, 2), r(3, 2, 3, 8), true},
		{none, none, true},
		{r(top, top, -top, -top), r(-top, -top, top, top), true},
		{r(top+1, 0, 0, 0), none, false},
		{r(0, top+1, 0, 0), none, false},
		{r(0, 0, top+1, 0), none, false},
		{r(0, 0, 0, top+1), none, false},
		{r(-top-1, 0, 0, 0), none, false},
		{r(0, -top-1, 0, 0), none, false},
		{r(0, 0, -top-1, 0), none, false},
		{r(0, 0, 0, -top-1), none, false},
		{r(least, most, most, least), none, false},
		{r(top+1, 5, top+2, 6), none, false},
	} {
		got, ok := Of(x.in.X0, x.in.Y0, x.in.X1, x.in.Y1)
		is(t, "Of", x.in, got, ok, x.want, x.ok)
	}
}

func TestOfAtAllEdges(t *testing.T) {
	for _, x := range rects(edges()) {
		ordered := x
		if ordered.X0 > ordered.X1 {
			ordered.X0, ordered.X1 = ordered.X1, ordered.X0
		}
		if ordered.Y0 > ordered.Y1 {
			ordered.Y0, ordered.Y1 = ordered.Y1, ordered.Y0
		}
		want, may := asked(whole(ordered, 0, 0, 0, 0))
		got, ok := Of(x.X0, x.Y0, x.X1, x.Y1)
		is(t, "Of", x, got, ok, want, may)
	}
}

// P3.2

func TestMeetJoinHoldsExamples(t *testing.T) {
	full := r(-top, -top, top, top)
	for _, x := range []struct {
		a, b, meet api.Rect
		touch      bool
		join       api.Rect
		holds      bool
	}{
		{r(0, 0, 4, 4), r(4, 2, 9, 9), r(4, 2, 4, 4), true, r(0, 0, 9, 9), false},
		{r(0, 0, 4, 4), r(5, 0, 9, 9), none, false, r(0, 0, 9, 9), false},
		{r(0, 0, 4, 4), r(0, 5, 9, 9), none, false, r(0, 0, 9, 9), false},
		{r(0, 0, 4, 4), r(4, 4, 9, 9), r(4, 4, 4, 4), true, r(0, 0, 9, 9), false},
		{r(0, 0, 4, 4), r(-3, 1, 0, 2), r(0, 1, 0, 2), true, r(-3, 0, 4, 4), false},
		{r(0, 0, 4, 4), r(1, -3, 2, 0), r(1, 0, 2, 0), true, r(0, -3, 4, 4), false},
		{r(0, 0, 4, 4), r(-3, -3, -1, 9), none, false, r(-3, -3, 4, 9), false},
		{r(0, 0, 4, 4), r(-3, -3, 9, -1), none, false, r(-3, -3, 9, 4), false},
		{r(0, 0, 1, 1), r(5, 5, 6, 6), none, false, r(0, 0, 6, 6), false},
		{r(0, 0, 4, 4), r(0, 1, 4, 4), r(0, 1, 4, 4), true, r(0, 0, 4, 4), true},
		{r(0, 0, 4, 4), r(0, 0, 4, 4), r(0, 0, 4, 4), true, r(0, 0, 4, 4), true},
		{r(0, 0, 4, 4), r(0, 1, 5, 4), r(0, 1, 4, 4), true, r(0, 0, 5, 4), false},
		{r(0, 3, 9, 3), r(3, 0, 3, 9), r(3, 3, 3, 3), true, r(0, 0, 9, 9), false},
		{r(2, 2, 2, 2), r(2, 2, 2, 2), r(2, 2, 2, 2), true, r(2, 2, 2, 2), true},
		{none, none, none, true, none, true},
		{full, r(1, 2, 3, 4), r(1, 2, 3, 4), true, full, true},
		{full, full, full, true, full, true},
		{full, r(top, -top, top, -top), r(top, -top, top, -top), true, full, true},
		{r(-top, -top, -top, -top), r(top, top, top, top), none, false, full, false},
	} {
		got, ok := Meet(x.a, x.b)
		is(t, "Meet", []api.Rect{x.a, x.b}, got, ok, x.meet, x.touch)
		got, ok = Join(x.a, x.b)
		is(t, "Join", []api.Rect{x.a, x.b}, got, ok, x.join, true)
		if Holds(x.a, x.b) != x.holds {
			t.Errorf("Holds(%v, %v) is %v", x.a, x.b, !x.holds)
		}
	}
}

func TestMeetJoinHoldsOfWhatMayNotBe(t *testing.T) {
	for _, bad := range wrong() {
		for _, other := range []api.Rect{none, r(0, 0, 4, 4), r(-top, -top, top, top), bad, r(9, 9, 8, 8)} {
			for _, pair := range [][2]api.Rect{{bad, other}, {other, bad}} {
				got, ok := Meet(pair[0], pair[1])
				is(t, "Meet", pair, got, ok, none, false)
				got, ok = Join(pair[0], pair[1])
				is(t, "Join", pair, got, ok, none, false)
				if Holds(pair[0], pair[1]) {
					t.Errorf("Holds(%v, %v) is true", pair[0], pair[1])
				}
			}
		}
	}
}

// small are all rectangles that may be within a field of few points.
func small() []api.Rect {
	return slices.DeleteFunc(rects([]int{0, 1, 2, 3}), func(x api.Rect) bool { return x.X0 > x.X1 || x.Y0 > x.Y1 })
}

// points are those that a rectangle holds, a bit each, of the field of small.
func points(a api.Rect) uint16 {
	var held uint16
	for x := range 4 {
		for y := range 4 {
			if a.X0 <= x && x <= a.X1 && a.Y0 <= y && y <= a.Y1 {
				held |= 1 << (4*y + x)
			}
		}
	}
	return held
}

// The words of P3.2 themselves: by points that are held, each one looked at.
func TestMeetJoinHoldsByTheirPoints(t *testing.T) {
	for _, a := range small() {
		for _, b := range small() {
			pair := []api.Rect{a, b}
			meet, ok := Meet(a, b)
			if common := points(a) & points(b); ok != (common != 0) || ok && points(meet) != common || !ok && meet != none {
				t.Errorf("Meet of %v: %v, %v", pair, meet, ok)
			}
			if Holds(a, b) != (points(a)|points(b) == points(a)) {
				t.Errorf("Holds of %v: %v", pair, Holds(a, b))
			}
			join, ok := Join(a, b)
			both := points(a) | points(b)
			if !ok || points(join)&both != both {
				t.Errorf("Join of %v: %v, %v", pair, join, ok)
			}
			for _, other := range small() {
				if held := points(other); held&both == both && held&points(join) != points(join) {
					t.Errorf("Join of %v is %v, but %v holds both, too", pair, join, other)
				}
			}
		}
	}
}

// P3.3

func TestShift(t *testing.T) {
	for _, x := range []struct {
		in     api.Rect
		dx, dy int
		want   api.Rect
		ok     bool
	}{
		{r(0, 1, 2, 3), -5, 7, r(-5, 8, -3, 10), true},
		{r(0, 1, 2, 3), 0, 0, r(0, 1, 2, 3), true},
		{r(4, 4, 4, 4), 1, -1, r(5, 3, 5, 3), true},
		{r(0, 0, top, 0), 1, 0, none, false},
		{r(0, 0, 0, top), 0, 1, none, false},
		{r(-top, 0, 0, 0), -1, 0, none, false},
		{r(0, -top, 0, 0), 0, -1, none, false},
		{r(0, 0, top-1, 0), 1, 0, r(1, 0, top, 0), true},
		{r(0, 0, 0, top-1), 0, 1, r(0, 1, 0, top), true},
		{r(-top+1, 0, 0, 0), -1, 0, r(-top, 0, -1, 0), true},
		{r(0, -top+1, 0, 0), 0, -1, r(0, -top, 0, -1), true},
		{r(-top, -top, -top, -top), top, top, none, true},
		{none, top, -top, r(top, -top, top, -top), true},
		{none, top + 1, 0, none, false},
		{none, 0, top + 1, none, false},
		{none, -top - 1, 0, none, false},
		{none, 0, -top - 1, none, false},
		// The answer might be, but the way there is not in.
		{r(-top, -top, -top, -top), top + 1, 0, none, false},
		{r(top, top, top, top), 0, -top - 1, none, false},
		{r(-top, -top, -top, -top), 2 * top, 2 * top, none, false},
		{none, most, least, none, false},
		{r(-5, -5, -4, -4), least, 0, none, false},
		{r(5, 5, 6, 6), 0, most, none, false},
		// It may not be, though moved it might.
		{r(-top-1, 0, 0, 0), 1, 0, none, false},
		{r(0, 0, 0, top+1), 0, -1, none, false},
		{r(1, 0, 0, 0), 1, 1, none, false},
	} {
		got, ok := Shift(x.in, x.dx, x.dy)
		is(t, "Shift", []any{x.in, x.dx, x.dy}, got, ok, x.want, x.ok)
	}
}

func TestInset(t *testing.T) {
	for _, x := range []struct {
		in   api.Rect
		d    int
		want api.Rect
		ok   bool
	}{
		{r(0, 0, 10, 10), 5, r(5, 5, 5, 5), true},
		{r(0, 0, 10, 10), 6, none, false},
		{r(0, 0, 10, 10), -1, r(-1, -1, 11, 11), true},
		{r(0, 0, 10, 10), 0, r(0, 0, 10, 10), true},
		{r(0, 0, 11, 11), 5, r(5, 5, 6, 6), true},
		{r(0, 0, 11, 11), 6, none, false},
		{r(0, 0, 10, 20), 5, r(5, 5, 5, 15), true},
		{r(0, 0, 10, 20), 6, none, false}, // too far for one pair of sides is enough
		{r(0, 0, 20, 10), 6, none, false},
		{r(0, 0, 20, 10), 5, r(5, 5, 15, 5), true},
		{r(3, 3, 3, 3), 0, r(3, 3, 3, 3), true},
		{r(3, 3, 3, 3), 1, none, false},
		{r(3, 3, 3, 3), -2, r(1, 1, 5, 5), true},
		{r(-top, 0, 10, 10), -1, none, false},
		{r(0, -top, 10, 10), -1, none, false},
		{r(0, 0, top, 10), -1, none, false},
		{r(0, 0, 10, top), -1, none, false},
		{r(1-top, 1-top, top-1, top-1), -1, r(-top, -top, top, top), true},
		{r(-top, -top, top, top), 1, r(1-top, 1-top, top-1, top-1), true},
		{r(-top, -top, top, top), top, none, true},
		{r(-top, -top, top, top), top + 1, none, false},
		{none, -top, r(-top, -top, top, top), true},
		{none, -top - 1, none, false},
		{none, top, none, false},
		{r(0, 0, 10, 10), top + 1, none, false},
		{r(0, 0, 10, 10), most, none, false},
		{r(0, 0, 10, 10), least, none, false},
		{r(0, 0, 10, 10), 1 << 62, none, false},
		{r(0, 0, 10, 10), -1 << 62, none, false},
		// They may not be, though with their sides moved they might.
		{r(-top-1, -top-1, top+1, top+1), 1, none, false},
		{r(2, 0, 1, 9), -1, none, false},
		{r(0, 2, 9, 1), -1, none, false},
	} {
		got, ok := Inset(x.in, x.d)
		is(t, "Inset", []any{x.in, x.d}, got, ok, x.want, x.ok)
	}
}

func TestShiftInsetAgainstTrueSums(t *testing.T) {
	isIn := func(x int) bool { return slices.Contains(inEdges(), x) }
	for _, a := range rects([]int{least, -top - 1, -top, -1, 0, 1, top, top + 1, most}) {
		_, may := asked(whole(a, 0, 0, 0, 0))
		for _, d := range edges() {
			want, wantOk := none, false
			// The least int has no negative; it is not in, either.
			if may && isIn(d) {
				want, wantOk = asked(whole(a, d, d, -d, -d))
			}
			got, ok := Inset(a, d)
			is(t, "Inset", []any{a, d}, got, ok, want, wantOk)
			for _, e := range []int{least, -top - 1, -top, -1, 0, 1, top, top + 1, most} {
				want, wantOk = asked(whole(a, d, e, d, e))
				got, ok = Shift(a, d, e)
				is(t, "Shift", []any{a, d, e}, got, ok, want, wantOk && may && isIn(d) && isIn(e))
			}
		}
	}
}

func TestAll(t *testing.T) {
	for _, x := range []struct {
		l    []api.Rect
		want api.Rect
		ok   bool
	}{
		{nil, none, false},
		{[]api.Rect{}, none, false},
		{[]api.Rect{none}, none, true},
		{[]api.Rect{r(1, 2, 3, 4)}, r(1, 2, 3, 4), true},
		{[]api.Rect{r(7, 7, 7, 7)}, r(7, 7, 7, 7), true},
		{[]api.Rect{r(5, 5, 6, 6), r(8, 8, 9, 9)}, r(5, 5, 9, 9), true}, // nothing at 0 is joined in
		{[]api.Rect{r(-6, -6, -5, -5), r(-9, -9, -8, -8)}, r(-9, -9, -5, -5), true},
		{[]api.Rect{r(0, 0, 1, 1), r(3, -2, 4, 0), r(1, 1, 1, 9)}, r(0, -2, 4, 9), true},
		{[]api.Rect{r(1, 1, 1, 9), r(3, -2, 4, 0), r(0, 0, 1, 1)}, r(0, -2, 4, 9), true},
		{[]api.Rect{r(-top, 0, 0, 0), r(0, -top, 0, 0), r(0, 0, top, 0), r(0, 0, 0, top)}, r(-top, -top, top, top), true},
	} {
		got, ok := All(x.l)
		is(t, "All", x.l, got, ok, x.want, x.ok)
	}
	for _, bad := range wrong() {
		for _, l := range [][]api.Rect{
			{bad}, {bad, none}, {none, bad}, {bad, bad}, {r(0, 0, 4, 4), bad, r(-top, -top, top, top)},
			{r(-top, -top, top, top), r(1, 1, 2, 2), bad}, {bad, r(-top, -top, top, top)},
		} {
			got, ok := All(l)
			is(t, "All", l, got, ok, none, false)
		}
	}
}

func TestAllIsTheJoinOfAll(t *testing.T) {
	l := small()
	for from := range l {
		for n := 1; n <= 5 && from+n <= len(l); n++ {
			some := l[from : from+n]
			want := some[0]
			for _, a := range some[1:] {
				want, _ = Join(want, a)
			}
			got, ok := All(some)
			is(t, "All", some, got, ok, want, true)
		}
	}
}

func TestAListStaysAsItWas(t *testing.T) {
	first := []api.Rect{r(0, 0, 1, 1), r(3, -2, 4, 0), r(1, 1, 1, 9), r(8, 8, 8, 8), r(9, 9, 0, 0)}
	room := slices.Clone(first)
	for n := range len(room) + 1 {
		All(room[:n])
		if !slices.Equal(room, first) {
			t.Fatalf("All of %d of them left %v", n, room)
		}
	}
	// The spare room holds what would be found wrong, if it were looked at.
	got, ok := All(room[:4])
	is(t, "All", first[:4], got, ok, r(0, -2, 8, 9), true)
}

// P3.4

// many are rectangles that may be: small ones, and ones at the edges.
func many() []api.Rect {
	l := rects([]int{-top, -1, 0, 1, top})
	return append(slices.DeleteFunc(l, func(x api.Rect) bool { return x.X0 > x.X1 || x.Y0 > x.Y1 }), small()...)
}

func TestMeetAndJoinTheOtherWayRound(t *testing.T) {
	for _, a := range many() {
		for _, b := range many() {
			got, ok := Meet(a, b)
			back, backOk := Meet(b, a)
			is(t, "Meet, both ways,", []api.Rect{a, b}, got, ok, back, backOk)
			got, ok = Join(a, b)
			back, backOk = Join(b, a)
			is(t, "Join, both ways,", []api.Rect{a, b}, got, ok, back, backOk)
			if !ok || !May(got) {
				t.Errorf("Join of %v, %v: %v, %v", a, b, got, ok)
			}
		}
	}
}

func TestHoldsJustIfMeetOrJoinTellsIt(t *testing.T) {
	for _, a := range many() {
		for _, b := range many() {
			holds := Holds(a, b)
			if meet, ok := Meet(a, b); (ok && meet == b) != holds {
				t.Errorf("Holds(%v, %v) is %v, their Meet is %v, %v", a, b, holds, meet, ok)
			}
			if join, ok := Join(a, b); (ok && join == a) != holds {
				t.Errorf("Holds(%v, %v) is %v, their Join is %v, %v", a, b, holds, join, ok)
			}
		}
	}
}

func TestMovedThereAndBack(t *testing.T) {
	told := 0
	for _, a := range many() {
		for _, dx := range inEdges() {
			for _, dy := range inEdges() {
				there, ok := Shift(a, dx, dy)
				if !ok {
					continue
				}
				told++
				back, ok := Shift(there, -dx, -dy)
				is(t, "Shift there and back", []any{a, dx, dy}, back, ok, a, true)
			}
		}
	}
	if told == 0 {
		t.Error("nothing was moved")
	}
}
