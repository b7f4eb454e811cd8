package fixed

import (
	"math"
	"math/big"
	"slices"
	"testing"

	"colophon/api"
)

const (
	top   = api.MaxSp
	least = math.MinInt
	most  = math.MaxInt
)

// edges are the numbers near which something changes.
func edges() []int {
	l := []int{least, least + 1, most - 1, most}
	for _, x := range []int{0, api.One, top / 2, top, 2 * top, 1 << 32, 1 << 62} {
		for d := -3; d <= 3; d++ {
			l = append(l, x+d, -x+d)
		}
	}
	slices.Sort(l)
	return slices.Compact(l)
}

func bigs(x int) *big.Int { return big.NewInt(int64(x)) }

// asked is what a call ought to answer, if the true result is x.
func asked(x *big.Int, may bool) (int, bool) {
	if !may || x.CmpAbs(bigs(top)) > 0 {
		return 0, false
	}
	return int(x.Int64()), true
}

// P1.1

func TestIn(t *testing.T) {
	for _, x := range []int{0, 1, -1, api.One, top - 1, top, -top, -top + 1} {
		if !In(x) {
			t.Errorf("In(%d) is false", x)
		}
	}
	for _, x := range []int{top + 1, -top - 1, 2 * top, -2 * top, least, most} {
		if In(x) {
			t.Errorf("In(%d) is true", x)
		}
	}
}

// P1.2

func TestAddSubTimesExamples(t *testing.T) {
	for _, x := range []struct {
		name string
		f    func(a, b int) (int, bool)
		a, b int
		want int
		ok   bool
	}{
		{"Add", Add, top, 0, top, true},
		{"Add", Add, top, 1, 0, false},
		{"Add", Add, 2 * top, -2 * top, 0, false},
		{"Add", Add, top + 1, -1, 0, false},
		{"Add", Add, -1, top + 1, 0, false},
		{"Add", Add, -top, -1, 0, false},
		{"Add", Add, -top, top, 0, true},
		{"Add", Add, most, most, 0, false},
		{"Add", Add, least, least, 0, false},
		{"Sub", Sub, top, 0, top, true},
		{"Sub", Sub, -top, 1, 0, false},
		{"Sub", Sub, top, -1, 0, false},
		{"Sub", Sub, top + 1, 1, 0, false},
		{"Sub", Sub, 1, top + 1, 0, false},
		{"Sub", Sub, top, top, 0, true},
		{"Sub", Sub, 3, 5, -2, true},
		{"Sub", Sub, 0, least, 0, false},
		{"Times", Times, -3, 5, -15, true},
		{"Times", Times, 1, 1 << 62, 0, false},
		{"Times", Times, 0, 1 << 62, 0, true},
		{"Times", Times, 0, least, 0, true},
		{"Times", Times, -1, least, 0, false},
		{"Times", Times, top, 1, top, true},
		{"Times", Times, top, -1, -top, true},
		{"Times", Times, top + 1, 0, 0, false},
		{"Times", Times, -top - 1, 0, 0, false},
		{"Times", Times, 1, top + 1, 0, false},
		{"Times", Times, 1 << 32, 1 << 32, 0, false},
		{"Times", Times, -1 << 20, 1 << 20, -top, true},
	} {
		if got, ok := x.f(x.a, x.b); got != x.want || ok != x.ok {
			t.Errorf("%s(%d, %d) = %d, %v, not %d, %v", x.name, x.a, x.b, got, ok, x.want, x.ok)
		}
	}
}

func TestAddSubTimesAgainstTrueOnes(t *testing.T) {
	for _, a := range edges() {
		for _, b := range edges() {
			check2(t, "Add", Add, a, b, new(big.Int).Add(bigs(a), bigs(b)), In(a) && In(b))
			check2(t, "Sub", Sub, a, b, new(big.Int).Sub(bigs(a), bigs(b)), In(a) && In(b))
			check2(t, "Times", Times, a, b, new(big.Int).Mul(bigs(a), bigs(b)), In(a))
		}
	}
}

func check2(t *testing.T, name string, f func(a, b int) (int, bool), a, b int, result *big.Int, may bool) {
	t.Helper()
	want, wantOk := asked(result, may)
	if got, ok := f(a, b); got != want || ok != wantOk {
		t.Errorf("%s(%d, %d) = %d, %v, not %d, %v", name, a, b, got, ok, want, wantOk)
	}
}

// P1.3

func TestScaleFloorExamples(t *testing.T) {
	for _, x := range []struct {
		a, b, c int
		near    int
		nearOk  bool
		low     int
		lowOk   bool
	}{
		{1, 1, 2, 1, true, 0, true},
		{-1, 1, 2, 0, true, -1, true},
		{1, -1, 2, 0, true, -1, true},
		{-1, -1, 2, 1, true, 0, true},
		{3, 1, 2, 2, true, 1, true},
		{-3, 1, 2, -1, true, -2, true},
		{1, 1, 3, 0, true, 0, true},
		{2, 1, 3, 1, true, 0, true},
		{-1, 1, 3, 0, true, -1, true},
		{-2, 1, 3, -1, true, -1, true},
		{6, 1, 3, 2, true, 2, true},
		{-6, 1, 3, -2, true, -2, true},
		{1 << 62, 1 << 62, 1 << 62, 0, false, 0, false},
		{1 << 62, 8, 1 << 62, 8, true, 8, true},
		{-1 << 62, 8, 1 << 62, -8, true, -8, true},
		{least, top, 1 << 62, 0, false, 0, false},
		{least, top / 2, 1 << 62, -top, true, -top, true},
		{least, least, 1, 0, false, 0, false},
		{least, 1, most, -1, true, -2, true},
		{most, 1, most, 1, true, 1, true},
		{1 << 62, 1, most, 1, true, 0, true},
		{1<<62 - 1, 1, most, 0, true, 0, true},
		{7, 3, 0, 0, false, 0, false},
		{7, 3, -1, 0, false, 0, false},
		{0, 0, 0, 0, false, 0, false},
		{7, 3, least, 0, false, 0, false},
		{0, least, most, 0, true, 0, true},
		{top, 1, 1, top, true, top, true},
		{-top, 1, 1, -top, true, -top, true},
		{top + 1, 1, 1, 0, false, 0, false},
		{-top - 1, 1, 1, 0, false, 0, false},
		{4*top + 1, 1, 4, top, true, top, true},
		{2*top + 1, 1, 2, 0, false, top, true},
		{-2*top - 1, 1, 2, -top, true, 0, false},
		{-4*top - 3, 1, 4, 0, false, 0, false},
	} {
		if got, ok := Scale(x.a, x.b, x.c); got != x.near || ok != x.nearOk {
			t.Errorf("Scale(%d, %d, %d) = %d, %v, not %d, %v", x.a, x.b, x.c, got, ok, x.near, x.nearOk)
		}
		if got, ok := Floor(x.a, x.b, x.c); got != x.low || ok != x.lowOk {
			t.Errorf("Floor(%d, %d, %d) = %d, %v, not %d, %v", x.a, x.b, x.c, got, ok, x.low, x.lowOk)
		}
	}
}

func TestScaleFloorAgainstTrueOnes(t *testing.T) {
	for _, a := range edges() {
		for _, b := range edges() {
			for _, c := range edges() {
				checkQuotients(t, a, b, c)
			}
		}
	}
	for a := -20; a <= 20; a++ {
		for b := -20; b <= 20; b++ {
			for c := -2; c <= 20; c++ {
				checkQuotients(t, a, b, c)
			}
		}
	}
}

func checkQuotients(t *testing.T, a, b, c int) {
	t.Helper()
	wantNear, wantNearOk, wantLow, wantLowOk := 0, false, 0, false
	if c >= 1 {
		product := new(big.Int).Mul(bigs(a), bigs(b))
		// For a divisor above 0, Div of package big rounds down.
		wantLow, wantLowOk = asked(new(big.Int).Div(product, bigs(c)), true)
		twice := new(big.Int).Lsh(product, 1)
		twice.Add(twice, bigs(c))
		wantNear, wantNearOk = asked(twice.Div(twice, new(big.Int).Lsh(bigs(c), 1)), true)
	}
	if got, ok := Scale(a, b, c); got != wantNear || ok != wantNearOk {
		t.Errorf("Scale(%d, %d, %d) = %d, %v, not %d, %v", a, b, c, got, ok, wantNear, wantNearOk)
	}
	if got, ok := Floor(a, b, c); got != wantLow || ok != wantLowOk {
		t.Errorf("Floor(%d, %d, %d) = %d, %v, not %d, %v", a, b, c, got, ok, wantLow, wantLowOk)
	}
}

// P1.4

func TestSum(t *testing.T) {
	for _, x := range []struct {
		l    []int
		want int
		ok   bool
	}{
		{nil, 0, true},
		{[]int{}, 0, true},
		{[]int{5}, 5, true},
		{[]int{-1, -2, 5, -7}, -5, true},
		{[]int{-1}, -1, true},
		{[]int{api.One - 1, 1}, api.One, true},
		{[]int{api.One, -1}, api.One - 1, true},
		{[]int{top}, top, true},
		{[]int{-top}, -top, true},
		{[]int{top + 1}, 0, false},
		{[]int{-top - 1}, 0, false},
		{[]int{top + 1, -1}, 0, false},
		{[]int{-5, top + 1}, 0, false},
		{[]int{1, -top - 1}, 0, false},
		{[]int{least, most, 1}, 0, false},
		{[]int{top, 1}, 0, false},
		{[]int{-top, -1}, 0, false},
		{[]int{top, 1, -1}, top, true},
		{[]int{-top, -1, 1}, -top, true},
		{[]int{top, top, top, -top, -top}, top, true},
		{[]int{-top, -top, top, top - 1}, -1, true},
	} {
		if got, ok := Sum(x.l); got != x.want || ok != x.ok {
			t.Errorf("Sum(%v) = %d, %v, not %d, %v", x.l, got, ok, x.want, x.ok)
		}
	}
}

// 2^24 lengths of 2^40 add up to 2^64, which is 0 if the sum is kept in 64 bits.
func TestSumBeyond64Bits(t *testing.T) {
	l := slices.Repeat([]int{top}, 1<<24+1)
	if got, ok := Sum(l[1:]); got != 0 || ok {
		t.Errorf("Sum of 2^24 MaxSp = %d, %v", got, ok)
	}
	if got, ok := Share(1, l); len(got) != 0 || ok {
		t.Errorf("Share by 2^24 + 1 parts of MaxSp: %d numbers, %v", len(got), ok)
	}
}

// P1.5

func TestShare(t *testing.T) {
	for _, x := range []struct {
		total int
		parts []int
		want  []int
		ok    bool
	}{
		{10, []int{1, 1, 1}, []int{3, 3, 4}, true},
		{-10, []int{1, 1, 1}, []int{-4, -3, -3}, true},
		{5, []int{0, 2, 0}, []int{0, 5, 0}, true},
		{10, []int{1, 2, 4}, []int{1, 3, 6}, true},
		{0, []int{3, 0, 4}, []int{0, 0, 0}, true},
		{1, []int{1, 1, 1, 1}, []int{0, 0, 0, 1}, true},
		{-1, []int{1, 1, 1, 1}, []int{-1, 0, 0, 0}, true},
		{top, []int{top}, []int{top}, true},
		{-top, []int{top}, []int{-top}, true},
		{top, []int{top - 1, 1}, []int{top - 1, 1}, true},
		{top, []int{1, 1}, []int{top / 2, top / 2}, true},
		{5, nil, nil, false},
		{5, []int{}, nil, false},
		{5, []int{0}, nil, false},
		{0, []int{0, 0}, nil, false},
		{5, []int{3, -1}, nil, false},
		{5, []int{-1, 3}, nil, false},
		{5, []int{-3}, nil, false},
		{5, []int{top + 1}, nil, false},
		{5, []int{top, 1}, nil, false},
		{5, []int{top + 1, -1}, nil, false},
		{5, []int{most, most, 2}, nil, false},
		{5, []int{least}, nil, false},
		{top + 1, []int{1}, nil, false},
		{-top - 1, []int{1}, nil, false},
		{least, []int{1}, nil, false},
	} {
		got, ok := Share(x.total, x.parts)
		if !slices.Equal(got, x.want) || ok != x.ok {
			t.Errorf("Share(%d, %v) = %v, %v, not %v, %v", x.total, x.parts, got, ok, x.want, x.ok)
		}
	}
}

func TestShareIsADifferenceOfFloors(t *testing.T) {
	for _, total := range edges() {
		if !In(total) {
			continue
		}
		for _, parts := range [][]int{{1}, {1, 2, 3}, {7, 0, 0, 5, 1}, {0, top / 3, top / 3, 2}, {top - 1, 1}} {
			got, ok := Share(total, parts)
			if !ok || len(got) != len(parts) {
				t.Fatalf("Share(%d, %v): %v, %v", total, parts, got, ok)
			}
			all, _ := Sum(parts)
			ahead := 0
			for i, part := range parts {
				before, _ := Floor(total, ahead, all)
				ahead += part
				upTo, _ := Floor(total, ahead, all)
				if got[i] != upTo-before {
					t.Errorf("Share(%d, %v)[%d] = %d, not %d", total, parts, i, got[i], upTo-before)
				}
			}
		}
	}
}

func TestArgumentsStayAndAnswersAreNew(t *testing.T) {
	room := []int{4, 1, 2, 9, 9}
	parts := room[:3]
	first, _ := Share(100, parts)
	second, _ := Share(100, parts)
	Sum(parts)
	if !slices.Equal(room, []int{4, 1, 2, 9, 9}) {
		t.Errorf("the argument is now %v", room)
	}
	for i := range first {
		first[i] = -1
	}
	_ = append(first, -1, -1)
	if !slices.Equal(room, []int{4, 1, 2, 9, 9}) || !slices.Equal(second, []int{57, 14, 29}) {
		t.Errorf("answers share memory: %v, %v", room, second)
	}
}

// P1.6

func TestSharesAddUpToTotal(t *testing.T) {
	for _, total := range edges() {
		for _, parts := range [][]int{{1}, {1, 1, 1}, {3, 0, 5, 7}, {0, 0, 1}, {top / 2, top / 2}, {1, top - 1}} {
			shares, ok := Share(total, parts)
			if ok != In(total) {
				t.Errorf("Share(%d, %v): %v", total, parts, ok)
			}
			if sum, sumOk := Sum(shares); ok && (sum != total || !sumOk) {
				t.Errorf("Share(%d, %v) adds up to %d, %v", total, parts, sum, sumOk)
			}
		}
	}
}

func TestAddEitherWayAndBack(t *testing.T) {
	for _, a := range edges() {
		for _, b := range edges() {
			sum, ok := Add(a, b)
			other, otherOk := Add(b, a)
			if sum != other || ok != otherOk {
				t.Errorf("Add(%d, %d) = %d, %v, but %d, %v the other way", a, b, sum, ok, other, otherOk)
			}
			if back, backOk := Sub(sum, b); ok && (back != a || !backOk) {
				t.Errorf("Sub(Add(%d, %d), %d) = %d, %v", a, b, b, back, backOk)
			}
		}
	}
}

func TestFloorIsScaleOrOneLess(t *testing.T) {
	for _, a := range edges() {
		for _, b := range edges() {
			for _, c := range edges() {
				near, ok := Scale(a, b, c)
				low, lowOk := Floor(a, b, c)
				if ok && lowOk && low != near && low != near-1 {
					t.Errorf("%d * %d / %d: Scale %d, Floor %d", a, b, c, near, low)
				}
				// Where only one of them is in, they stand on the two sides of a bound.
				if ok != lowOk && (ok && near != -top || lowOk && low != top) {
					t.Errorf("%d * %d / %d: Scale %d, %v, Floor %d, %v", a, b, c, near, ok, low, lowOk)
				}
			}
		}
	}
}
