package digits

import (
	"math"
	"math/big"
	"regexp"
	"strings"
	"testing"

	"colophon/api"
)

const top = api.MaxSp

// lengths are those near which something changes, and a spread of others.
func lengths() []int {
	var l []int
	for d := range 20 {
		l = append(l, d, -d, top-d, d-top, api.One+d, api.One-d, -api.One+d, -api.One-d)
	}
	for bit := 1; bit < top; bit *= 2 {
		l = append(l, bit, -bit, bit+1, -bit-1, 3*bit/2, -3*bit/2)
	}
	for power := 10; power < 1<<24; power *= 10 {
		l = append(l, power*api.One, power*api.One-1, -power*api.One, -power*api.One+1)
	}
	for x := -top; x <= top; x += top/1000 + 7919 {
		l = append(l, x)
	}
	return l
}

// said is the number that a decimal says, and whether it is one at all.
func said(s string) (*big.Rat, bool) {
	if !regexp.MustCompile(`\A-?[0-9]+(\.[0-9]+)?\z`).MatchString(s) {
		return nil, false
	}
	return new(big.Rat).SetString(s)
}

// near is the nearest whole number to 65536 times x, a half upwards.
func near(x *big.Rat) *big.Int {
	y := new(big.Rat).Mul(x, big.NewRat(api.One, 1))
	y.Add(y, big.NewRat(1, 2))
	// Div rounds down, if what divides is above 0, as a denominator is.
	return new(big.Int).Div(y.Num(), y.Denom())
}

// askedNear is what Near ought to answer, worked out by true fractions.
func askedNear(s string) (int, api.Errno) {
	if len(s) > 40 {
		return 0, api.ErrLong
	}
	x, ok := said(s)
	if !ok {
		return 0, api.ErrDigits
	}
	n := near(x)
	if n.CmpAbs(big.NewInt(top)) > 0 {
		return 0, api.ErrOver
	}
	return int(n.Int64()), api.OK
}

func checkNear(t *testing.T, s string) {
	t.Helper()
	want, code := askedNear(s)
	if got, err := Near(s); got != want || err != code {
		t.Errorf("Near(%q) = %d, %d; asked: %d, %d", s, got, err, want, code)
	}
}

// P2.1

func TestTextExamples(t *testing.T) {
	for x, want := range map[int]string{
		65536: "1", 1: "0.0000152587890625", -1: "-0.0000152587890625", -98304: "-1.5", 0: "0",
		32768: "0.5", -32768: "-0.5", top: "16777216", -top: "-16777216",
		top - 1: "16777215.9999847412109375", 1 - top: "-16777215.9999847412109375",
		10 * api.One: "10", 100*api.One + 1: "100.0000152587890625", 65535: "0.9999847412109375",
	} {
		if got, ok := Text(x); got != want || !ok {
			t.Errorf("Text(%d) = %q, %v", x, got, ok)
		}
	}
}

func TestTextOfWhatIsNotIn(t *testing.T) {
	for _, x := range []int{top + 1, -top - 1, 2 * top, math.MaxInt, math.MinInt, math.MinInt + 1} {
		if got, ok := Text(x); got != "" || ok {
			t.Errorf("Text(%d) = %q, %v", x, got, ok)
		}
	}
}

func TestTextIsExactAndShort(t *testing.T) {
	form := regexp.MustCompile(`\A-?(0|[1-9][0-9]*)(\.[0-9]{0,15}[1-9])?\z`)
	for _, x := range lengths() {
		got, ok := Text(x)
		number, is := said(got)
		if !ok || !is || !form.MatchString(got) || number.Cmp(big.NewRat(int64(x), api.One)) != 0 {
			t.Errorf("Text(%d) = %q, %v", x, got, ok)
		}
		if strings.HasPrefix(got, "-") != (x < 0) {
			t.Errorf("Text(%d) = %q: its sign", x, got)
		}
	}
}

func TestTextHasOneToSixteenDigitsBehindThePoint(t *testing.T) {
	// The lower the last bit of a length is, the more digits there are.
	for places := 1; places <= 16; places++ {
		for _, x := range []int{api.One >> places, 5*api.One + api.One>>places, -(api.One >> places)} {
			got, ok := Text(x)
			if _, fraction, _ := strings.Cut(got, "."); len(fraction) != places || !ok {
				t.Errorf("Text(%d) = %q, %v", x, got, ok)
			}
		}
	}
}

// P2.2

func TestParseExamples(t *testing.T) {
	for s, want := range map[string]int{
		"0": 0, "1": api.One, "1.5": 98304, "-1.5": -98304, "0.0000152587890625": 1, "-0.0000152587890625": -1,
		"16777216": top, "-16777216": -top, "10": 10 * api.One, "16777215.9999847412109375": top - 1,
	} {
		if got, ok := Parse(s); got != want || !ok {
			t.Errorf("Parse(%q) = %d, %v", s, got, ok)
		}
	}
}

func TestParseTakesNothingElse(t *testing.T) {
	wrong := []string{
		"", "-", ".", "-.", ".5", "-.5", "1.", "+1", "-0", "-0.0", "0.0", "00", "01", "-01", "1.50", "1.0", "0.1", "1e5", "1E5",
		"--1", "1-", "1.2.3", "1..5", "1,5", "1_0", "0x1", "Inf", "NaN",
		" 1", "1 ", "1 .5", "1. 5", "- 1", "\t1", "1\n", "1\x00", "\x001", "1\xff", "\u0661", "1.\u0665", "\uff11",
		"16777217", "16777216.5", "16777216.0000152587890625", "-16777216.0000152587890625", "-16777217",
		// Between two lengths: too fine, or not a sum of halves at all.
		"0.00000762939453125", "0.00001525878906251", "0.00001525878906250", "0.0000152587890624", "0.3",
		strings.Repeat("1", 60), strings.Repeat("0", 40), "1." + strings.Repeat("0", 40), strings.Repeat(" ", 100),
	}
	for _, s := range wrong {
		if got, ok := Parse(s); got != 0 || ok {
			t.Errorf("Parse(%q) = %d, %v", s, got, ok)
		}
	}
}

// Each text with one byte changed, put in, or taken out is another number's
// text or none.
func TestParseOfTextsThatAreChanged(t *testing.T) {
	for _, x := range []int{0, 1, -1, api.One, 98304, -98304, top, -top, top - 1, 12345678} {
		s, _ := Text(x)
		for i := range len(s) + 1 {
			for _, c := range []byte("0159-+. e\x00\xff/:") {
				checkParse(t, s[:i]+string(rune(c))+s[i:])
				if i < len(s) {
					checkParse(t, s[:i]+string([]byte{c})+s[i+1:])
					checkParse(t, s[:i]+s[i+1:])
				}
			}
		}
	}
}

// checkParse holds Parse to the words of P2.2: what it tells has that text, and
// if it tells nothing, the number that s says, taken up and down, has not.
func checkParse(t *testing.T, s string) {
	t.Helper()
	got, ok := Parse(s)
	if ok {
		if back, in := Text(got); back != s || !in {
			t.Errorf("Parse(%q) = %d, whose text is %q", s, got, back)
		}
		return
	}
	if got != 0 {
		t.Errorf("Parse(%q) = %d, false", s, got)
	}
	number, is := said(s)
	if !is || !near(number).IsInt64() {
		return
	}
	if back, in := Text(int(near(number).Int64())); in && back == s {
		t.Errorf("Parse(%q) is false, but it is a text", s)
	}
}

// P2.3

func TestNearExamples(t *testing.T) {
	for _, x := range []struct {
		s    string
		want int
		code api.Errno
	}{
		{"0.1", 6554, api.OK}, {"-0.1", -6554, api.OK}, {"007.50", 491520, api.OK}, {"-007.50", -491520, api.OK},
		{"0.00000762939453125", 1, api.OK}, {"-0.00000762939453125", 0, api.OK},
		{"0.000022888", 1, api.OK}, {"0.00002288818359375", 2, api.OK}, {"-0.00002288818359375", -1, api.OK},
		{"0.00000762939453124", 0, api.OK}, {"-0.00000762939453126", -1, api.OK},
		{"0.000007629394531249999999999999999999", 0, api.OK}, {"-0.00000762939453125000000000000000001", -1, api.OK},
		{"-0", 0, api.OK}, {"-0.0", 0, api.OK}, {"00", 0, api.OK},
		{"16777216", top, api.OK}, {"-16777216", -top, api.OK}, {"16777216.1", 0, api.ErrOver}, {"16777217", 0, api.ErrOver},
		// Half of one beyond: upwards that is out, downwards it comes back in.
		{"16777216.00000762939453124", top, api.OK}, {"16777216.00000762939453125", 0, api.ErrOver},
		{"-16777216.00000762939453125", -top, api.OK}, {"-16777216.00000762939453126", 0, api.ErrOver},
		{"16777215.99999999999", top, api.OK}, {"99999999", 0, api.ErrOver}, {"100000000", 0, api.ErrOver}, {"-100000000", 0, api.ErrOver},
		// 65536 times these is a multiple of 2^64, or one point more.
		{"281474976710656", 0, api.ErrOver}, {"-281474976710657", 0, api.ErrOver}, {"18446744073709551616", 0, api.ErrOver}, {"18446744073709551617.5", 0, api.ErrOver},
		{"", 0, api.ErrDigits}, {"1.", 0, api.ErrDigits}, {"1e5", 0, api.ErrDigits}, {"99999999999x", 0, api.ErrDigits},
	} {
		if got, err := Near(x.s); got != x.want || err != x.code {
			t.Errorf("Near(%q) = %d, %d", x.s, got, err)
		}
		checkNear(t, x.s)
	}
}

func TestNearTakesNothingButDecimals(t *testing.T) {
	wrong := []string{
		"", "-", ".", "-.", ".5", "-.5", "1.", "-1.", "+1", "--1", "1-", "-1-", "1.-5", "1.2.3", "1..5", "1e5", "1E5", "0x1", "1_0", "1,5",
		" 1", "1 ", "1 .5", "1. 5", "- 1", "\t1", "1\n", "1\x00", "\x001", "1\xff", "1/2", "1:", "1.:", "1./", "\u0661", "\uff11", "Inf", "NaN", "inf",
	}
	for _, s := range wrong {
		if got, err := Near(s); got != 0 || err != api.ErrDigits {
			t.Errorf("Near(%q) = %d, %d", s, got, err)
		}
	}
	for c := range 256 {
		for _, s := range []string{string([]byte{byte(c)}), string([]byte{'1', byte(c)}), string([]byte{byte(c), '1'}), string([]byte{'1', byte(c), '1'})} {
			checkNear(t, s)
		}
	}
}

func TestNearOfLongTexts(t *testing.T) {
	for n := 38; n <= 43; n++ {
		for _, s := range []string{
			strings.Repeat("0", n), strings.Repeat("9", n), strings.Repeat("x", n), strings.Repeat("0", n-1) + "7",
			"0." + strings.Repeat("9", n-2), "-0." + strings.Repeat("9", n-3), "0." + strings.Repeat("0", n-3) + "1",
			strings.Repeat("0", n-2) + ".5", "-" + strings.Repeat("0", n-1), strings.Repeat("0", n-8) + "16777216",
			strings.Repeat("0", n-9) + "16777216x", "1." + strings.Repeat("0", n-2), strings.Repeat("9", n-1) + ".",
			"0.00000762939453125" + strings.Repeat("0", n-19), "-0.00000762939453125" + strings.Repeat("0", n-21) + "1",
		} {
			checkNear(t, s)
		}
	}
	if got, err := Near(strings.Repeat("0", 40)); got != 0 || err != api.OK {
		t.Errorf("Near of 40 noughts: %d, %d", got, err)
	}
	for _, s := range []string{strings.Repeat("0", 41), strings.Repeat("x", 41), strings.Repeat("9", 41), strings.Repeat(" ", 1<<20)} {
		if got, err := Near(s); got != 0 || err != api.ErrLong {
			t.Errorf("Near of %d bytes: %d, %d", len(s), got, err)
		}
	}
}

// Halves, and what is just below and above them, of both signs.
func TestNearRoundsHalvesUp(t *testing.T) {
	for _, x := range lengths() {
		exact := big.NewRat(int64(2*x+1), 2*api.One).FloatString(17)
		if got, err := Near(exact); x < top && x >= -top && (got != x+1 || err != api.OK) {
			t.Errorf("Near(%q) = %d, %d; asked: %d", exact, got, err, x+1)
		}
		for _, tail := range []string{"", "0", "1", "9", "000000001", "99999999999"} {
			checkNear(t, exact+tail)
			checkNear(t, exact[:len(exact)-1]+"4"+tail)
		}
		for places := range 18 {
			checkNear(t, big.NewRat(int64(x), 7*api.One).FloatString(places))
			checkNear(t, "00"+big.NewRat(int64(x), api.One).FloatString(places)+"0")
		}
	}
}

// P2.4

func TestThereAndBack(t *testing.T) {
	for _, x := range lengths() {
		s, ok := Text(x)
		if !ok {
			t.Errorf("Text(%d): false", x)
		}
		if got, ok := Parse(s); got != x || !ok {
			t.Errorf("Parse(%q) = %d, %v", s, got, ok)
		}
		if got, err := Near(s); got != x || err != api.OK {
			t.Errorf("Near(%q) = %d, %d", s, got, err)
		}
		checkParse(t, s)
	}
}

func TestBackAndThere(t *testing.T) {
	for _, s := range []string{"0", "7", "-7", "1.5", "0.25", "-0.125", "4096.0625", "16777215.5", "0.0000152587890625"} {
		x, ok := Parse(s)
		if got, in := Text(x); got != s || !ok || !in {
			t.Errorf("Text(Parse(%q)) = %q, %v, %v", s, got, ok, in)
		}
	}
}
