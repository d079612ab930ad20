package dec_test

import (
	"math"
	"math/big"
	"regexp"
	"strings"
	"testing"

	"tabula/api"
	"tabula/dec"
)

type deed struct {
	name    string
	do      func(a, b api.Dec) (api.Dec, api.Errno)
	exactly func(z, x, y *big.Rat) *big.Rat
}

func deeds() []deed {
	return []deed{
		{"Add", dec.Add, (*big.Rat).Add},
		{"Sub", dec.Sub, (*big.Rat).Sub},
		{"Mul", dec.Mul, (*big.Rat).Mul},
		{"Div", dec.Div, (*big.Rat).Quo},
	}
}

// P1.1: which decimals are right.
func TestRight(t *testing.T) {
	for _, a := range edges() {
		if !dec.Right(a) {
			t.Errorf("Right(%v) is false", a)
		}
	}
	for _, a := range wrongs() {
		if dec.Right(a) {
			t.Errorf("Right(%v) is true", a)
		}
	}
	for _, m := range []int{0, 1, 5, 9, 10, 11, 100, 101, 999999999999990, 999999999999999, 1000000000000000, 1000000000000001, math.MaxInt, math.MinInt + 1} {
		for e := -12; e <= 12; e++ {
			for _, a := range []api.Dec{{M: m, E: e}, {M: -m, E: e}} {
				if dec.Right(a) != isRight(a) {
					t.Errorf("Right(%v): %v", a, dec.Right(a))
				}
			}
		}
	}
}

// P1.1: the right decimal of a whole number.
func TestOf(t *testing.T) {
	for n, want := range map[int]api.Dec{
		0: {}, 1: {M: 1}, -1: {M: -1}, 10: {M: 1, E: 1}, -120: {M: -12, E: 1}, 999999999999999: {M: 999999999999999}, -999999999999999: {M: -999999999999999},
		1000000000000000: {M: 1000000, E: 9}, 1000000000: {M: 1, E: 9}, 10000000000: {M: 10, E: 9}, 100000000: {M: 1, E: 8},
		9223372036854770000: {M: 922337203685477, E: 4}, -9223372036854770000: {M: -922337203685477, E: 4}, 9000000000000000000: {M: 9000000000, E: 9},
	} {
		if a, err := dec.Of(n); a != want || err != api.OK {
			t.Errorf("Of(%d): %v, error %d; want %v", n, a, err, want)
		}
	}
	for _, n := range []int{1000000000000001, -1000000000000001, 9999999999999999, 12345678901234560 + 1, 1234567890123456, math.MaxInt, math.MinInt, math.MinInt + 1} {
		if a, err := dec.Of(n); a != (api.Dec{}) || err != api.ErrDec {
			t.Errorf("Of(%d): %v, error %d; want ErrDec", n, a, err)
		}
	}
	d := dice(2)
	for range 20000 {
		n := int(int64(d.below(1<<31))<<32 | int64(d.below(1<<31)))
		for _, n := range []int{n, -n, n % 1000000, n / 1000000 * 1000000} {
			a, err := dec.Of(n)
			want, ok := form(new(big.Rat).SetInt64(int64(n)))
			if a != want || ok != (err == api.OK) || !ok && err != api.ErrDec {
				t.Errorf("Of(%d): %v, error %d; want %v", n, a, err, want)
			}
		}
	}
}

// P1.2: the nearest decimal, where it is not what comes of a call.
func TestNearest(t *testing.T) {
	for _, c := range []struct {
		call, a, b, want string
	}{
		{"Mul", "0.000000005", "0.5", "0.000000002"},
		{"Mul", "-0.000000005", "0.5", "-0.000000002"},
		{"Mul", "0.000000015", "0.5", "0.000000008"},
		{"Mul", "0.000000001", "0.5", "0"},
		{"Mul", "-0.000000001", "0.5", "0"},
		{"Mul", "0.000000001", "0.500000001", "0.000000001"},
		{"Mul", "0.000000003", "0.5", "0.000000002"},
		{"Mul", "0.000000001", "0.000000001", "0"},
		{"Div", "1", "3", "0.333333333"},
		{"Div", "2", "3", "0.666666667"},
		{"Div", "-2", "3", "-0.666666667"},
		{"Div", "1", "2000000000", "0"},
		{"Div", "3", "2000000000", "0.000000002"},
		{"Div", "1", "1999999999", "0.000000001"},
		{"Div", "1", "2000000001", "0"},
		{"Div", "0.000000001", "999999999999999000000000", "0"},
		{"Div", "999999999999999000000000", "1000000000", "999999999999999"},
		{"Div", "999999999999999", "7", "142857142857143"},
		{"Div", "999999.500000001", "1999999000000000", "0.000000001"},
		{"Div", "999999.5", "1999999000000000", "0"},
		{"Div", "999999.499999999", "1999999000000000", "0"},
		{"Div", "-999999.500000001", "1999999000000000", "-0.000000001"},
		{"Add", "999999999999999", "1", "1000000000000000"},
		{"Add", "999999999999999", "0.5", "1000000000000000"},
		{"Add", "999999999999999", "0.499999999", "999999999999999"},
		{"Add", "999999999999998", "0.5", "999999999999998"},
		{"Add", "999999999999998", "0.500000001", "999999999999999"},
		{"Add", "999999999999997", "0.5", "999999999999998"},
		{"Add", "1000000000000000", "5", "1000000000000000"},
		{"Add", "1000000000000010", "5", "1000000000000020"},
		{"Add", "1000000000000000", "5.000000001", "1000000000000010"},
		{"Add", "-1000000000000010", "-5", "-1000000000000020"},
		{"Add", "1000000000000000", "0.000000001", "1000000000000000"},
		{"Sub", "1000000000000000", "1", "999999999999999"},
		{"Sub", "1000000000000000", "0.000000001", "1000000000000000"},
		{"Add", "999999999999999000000000", "499999999.999999", "999999999999999000000000"},
	} {
		for _, d := range deeds() {
			if d.name == c.call {
				want := read(t, c.want)
				a, b := read(t, c.a), read(t, c.b)
				got, err := d.do(a, b)
				held(t, c.call, c.a, c.b, got, err, &want)
			}
		}
	}
	for _, c := range [][2]string{{"999999999999999000000000", "500000000"}, {"-999999999999999000000000", "-500000000"}, {"999999999999999000000000", "999999999999999000000000"}} {
		got, err := dec.Add(read(t, c[0]), read(t, c[1]))
		refused(t, "Add", c[0], c[1], got, err, api.ErrDec)
	}
	for _, c := range [][2]string{{"500000000000000000000000", "200000000000000000000000"}, {"500000000000000000000000", "-200000000000000000000000"}, {"1000000000000", "1000000000000"}, {"999999999999999000000000", "1.1"}, {"999999999999999000000000", "-999999999999999000000000"}} {
		got, err := dec.Mul(read(t, c[0]), read(t, c[1]))
		refused(t, "Mul", c[0], c[1], got, err, api.ErrDec)
	}
	for _, c := range [][2]string{{"999999999999999000000000", "0.000000001"}, {"999999999999999000000000", "-0.999999999"}} {
		got, err := dec.Div(read(t, c[0]), read(t, c[1]))
		refused(t, "Div", c[0], c[1], got, err, api.ErrDec)
	}
}

// P1.2, P1.3: of right decimals the nearest decimal of what comes of them exactly.
func TestDeeds(t *testing.T) {
	for _, d := range deeds() {
		pairs(func(a, b api.Dec) {
			got, err := d.do(a, b)
			if d.name == "Div" && b.M == 0 {
				refused(t, d.name, a, b, got, err, api.ErrZero)
				return
			}
			held(t, d.name, a, b, got, err, nearestTo(d.exactly(new(big.Rat), fraction(a), fraction(b))))
		})
	}
}

// P1.2, P1.3: products and quotients that lie at a tie, or hardly beside one.
func TestTies(t *testing.T) {
	d := dice(3)
	for range 3000 {
		odd := api.Dec{M: 2*(d.below(499999999)*1000000+d.below(1000000)) + 1, E: d.below(10) - 9}
		if odd.M%10 == 0 || odd.M > api.MaxDigit {
			continue
		}
		two, almost := api.Dec{M: 2}, api.Dec{M: 200000000000001, E: -9}
		half, more := api.Dec{M: 5, E: -1}, api.Dec{M: 500000001, E: -9}
		for _, b := range []api.Dec{two, almost, half, more, {M: -2}, {M: -5, E: -1}, {M: 8, E: d.below(10)}, {M: 16, E: d.below(10)}} {
			got, err := dec.Div(odd, b)
			held(t, "Div", odd, b, got, err, nearestTo(new(big.Rat).Quo(fraction(odd), fraction(b))))
			got, err = dec.Mul(odd, b)
			held(t, "Mul", odd, b, got, err, nearestTo(new(big.Rat).Mul(fraction(odd), fraction(b))))
		}
	}
}

// P1.2, P1.3: quotients of which no decimals make a nearer half.
func TestHardlyTies(t *testing.T) {
	d := dice(11)
	for range 1500 {
		b := d.decimal()
		if b.M == 0 {
			continue
		}
		half := big.NewRat(2*int64(d.below([]int{1, 10, 100000, 1 << 30}[d.below(4)]))+1, 2)
		half.Mul(half, tenTo(d.below(19)-9))
		a := nearestTo(half.Mul(half, fraction(b)))
		if a == nil {
			continue
		}
		for _, a := range append(beside(*a), *a) {
			got, err := dec.Div(a, b)
			held(t, "Div", a, b, got, err, nearestTo(new(big.Rat).Quo(fraction(a), fraction(b))))
		}
	}
}

// P1.3: decimals that are not right; and 0 to divide by, which is told behind that.
func TestWrongPairs(t *testing.T) {
	for _, w := range wrongs() {
		for _, d := range deeds() {
			for _, p := range [][2]api.Dec{{w, {}}, {{}, w}, {w, {M: 3}}, {{M: 3}, w}, {w, w}, {w, {M: 999999999999999, E: 9}}} {
				got, err := d.do(p[0], p[1])
				refused(t, d.name, p[0], p[1], got, err, api.ErrDec)
			}
		}
	}
	for _, a := range edges() {
		got, err := dec.Div(a, api.Dec{})
		refused(t, "Div", a, "0", got, err, api.ErrZero)
	}
}

// P1.4: Compare.
func TestCompare(t *testing.T) {
	for _, c := range []struct {
		a, b string
		want int
	}{
		{"0", "0", 0}, {"0", "-0", 0}, {"1", "2", -1}, {"2", "1", 1}, {"-1", "-2", 1}, {"-2", "1", -1}, {"10", "9", 1}, {"0.1", "0.10", 0}, {"0", "0.000000001", -1}, {"0", "-0.000000001", 1},
		{"999999999999999000000000", "-999999999999999000000000", 1}, {"1000000000000000", "999999999999999", 1}, {"1000000000", "999999999.999999", 1},
	} {
		if got := dec.Compare(read(t, c.a), read(t, c.b)); got != c.want {
			t.Errorf("Compare(%s, %s): %d", c.a, c.b, got)
		}
	}
	pairs(func(a, b api.Dec) {
		if got, want := dec.Compare(a, b), fraction(a).Cmp(fraction(b)); got != want {
			t.Errorf("Compare(%v, %v): %d; want %d", a, b, got, want)
		}
	})
	for _, w := range wrongs() {
		for _, a := range append(edges(), w) {
			if dec.Compare(w, a) != 0 || dec.Compare(a, w) != 0 {
				t.Errorf("Compare of %v and %v is not 0", w, a)
			}
		}
	}
}

// P1.4: Round.
func TestRound(t *testing.T) {
	for _, c := range []struct {
		a      string
		digits int
		want   string
	}{
		{"2.5", 0, "3"}, {"-2.5", 0, "-3"}, {"3.5", 0, "4"}, {"2.499999999", 0, "2"}, {"-2.499999999", 0, "-2"}, {"0.5", 0, "1"}, {"-0.5", 0, "-1"}, {"-0.4", 0, "0"}, {"0", 0, "0"}, {"0", 9, "0"}, {"0", -9, "0"},
		{"1.25", 1, "1.3"}, {"-1.25", 1, "-1.3"}, {"1.25", 2, "1.25"}, {"1.25", 9, "1.25"}, {"999999.999999999", 8, "1000000"}, {"999999.999999999", 9, "999999.999999999"}, {"0.000000005", 8, "0.00000001"}, {"0.000000004", 8, "0"},
		{"1250", -2, "1300"}, {"1249.999", -2, "1200"}, {"500000000", -9, "1000000000"}, {"-500000000", -9, "-1000000000"}, {"499999999.9", -9, "0"}, {"999999999999999", -1, "1000000000000000"}, {"999999999999999000000000", -9, "999999999999999000000000"}, {"99999999999999500000000", -9, "100000000000000000000000"},
	} {
		want := read(t, c.want)
		got, err := dec.Round(read(t, c.a), c.digits)
		held(t, "Round", c.a, c.digits, got, err, &want)
	}
	for _, a := range edges() {
		for digits := -9; digits <= 9; digits++ {
			checkRound(t, a, digits)
		}
	}
	d := dice(4)
	for range 20000 {
		checkRound(t, d.decimal(), d.below(19)-9)
	}
	for _, w := range wrongs() {
		for _, digits := range []int{0, 9, -9, 10, -10, math.MinInt, math.MaxInt} {
			got, err := dec.Round(w, digits)
			refused(t, "Round", w, digits, got, err, api.ErrDec)
		}
	}
	for _, digits := range []int{10, -10, 11, -11, 100, math.MinInt, math.MaxInt} {
		for _, a := range []api.Dec{{}, {M: 1}, {M: -999999999999999, E: 9}} {
			got, err := dec.Round(a, digits)
			refused(t, "Round", a, digits, got, err, api.ErrArg)
		}
	}
}

func checkRound(t *testing.T, a api.Dec, digits int) {
	t.Helper()
	x := new(big.Rat).Mul(fraction(a), tenTo(digits))
	x.SetInt(roundedTo(x, false))
	got, err := dec.Round(a, digits)
	held(t, "Round", a, digits, got, err, nearestTo(x.Mul(x, tenTo(-digits))))
}

// P1.4: Floor.
func TestFloor(t *testing.T) {
	for s, want := range map[string]int{
		"0": 0, "2": 2, "2.9": 2, "-2": -2, "-2.1": -3, "0.000000001": 0, "-0.000000001": -1, "-999999.999999999": -1000000, "1200": 1200, "-1200": -1200,
		"999999999999999": 999999999999999, "-999999999999999": -999999999999999, "99999999999999.9": 99999999999999, "-99999999999999.9": -100000000000000, "900000000000000": 900000000000000,
	} {
		if n, err := dec.Floor(read(t, s)); n != want || err != api.OK {
			t.Errorf("Floor(%s): %d, error %d; want %d", s, n, err, want)
		}
	}
	check := func(a api.Dec) {
		n, err := dec.Floor(a)
		want := floorOf(fraction(a))
		if want.CmpAbs(big.NewInt(api.MaxDigit)) > 0 {
			if n != 0 || err != api.ErrDec {
				t.Errorf("Floor(%v): %d, error %d; want ErrDec", a, n, err)
			}
		} else if err != api.OK || int64(n) != want.Int64() {
			t.Errorf("Floor(%v): %d, error %d; want %v", a, n, err, want)
		}
	}
	for _, a := range append(edges(), read(t, "1000000000000000"), read(t, "-1000000000000000")) {
		check(a)
	}
	d := dice(5)
	for range 20000 {
		check(d.decimal())
	}
	for _, w := range wrongs() {
		if n, err := dec.Floor(w); n != 0 || err != api.ErrDec {
			t.Errorf("Floor(%v): %d, error %d; want ErrDec", w, n, err)
		}
	}
}

// power is what P1.5 says, by fractions.
func power(a api.Dec, n int) (*api.Dec, api.Errno) {
	x := &api.Dec{M: 1}
	for range max(n, -n) {
		x = nearestTo(new(big.Rat).Mul(fraction(*x), fraction(a)))
		if x == nil {
			return nil, api.ErrDec
		}
	}
	if n >= 0 {
		return x, api.OK
	}
	if x.M == 0 {
		return nil, api.ErrZero
	}
	return nearestTo(new(big.Rat).Inv(fraction(*x))), api.OK
}

// P1.5: Power.
func TestPower(t *testing.T) {
	for _, c := range []struct {
		a    string
		n    int
		want string
	}{
		{"0", 0, "1"}, {"7", 0, "1"}, {"0", 1, "0"}, {"0", 100, "0"}, {"7", 1, "7"}, {"2", 10, "1024"}, {"-2", 3, "-8"}, {"-2", 4, "16"}, {"2", -1, "0.5"}, {"2", -2, "0.25"}, {"-2", -3, "-0.125"}, {"3", -1, "0.333333333"},
		{"1", 100, "1"}, {"-1", 99, "-1"}, {"-1", 100, "1"}, {"1", -100, "1"}, {"-1", -99, "-1"}, {"10", 23, "100000000000000000000000"}, {"10", -9, "0.000000001"}, {"10", -10, "0"}, {"10", -23, "0"}, {"0.5", 9, "0.001953125"}, {"0.5", 10, "0.000976562"}, {"0.1", 10, "0"}, {"0.1", -9, "1000000000"}, {"0.000000001", -1, "1000000000"},
	} {
		want := read(t, c.want)
		got, err := dec.Power(read(t, c.a), c.n)
		held(t, "Power", c.a, c.n, got, err, &want)
	}
	for _, c := range []struct {
		a    string
		n    int
		want api.Errno
	}{
		{"0", -1, api.ErrZero}, {"0", -100, api.ErrZero}, {"0.1", -10, api.ErrZero}, {"0.1", -100, api.ErrZero}, {"10", 24, api.ErrDec}, {"10", -24, api.ErrDec}, {"-10", 24, api.ErrDec}, {"10", -100, api.ErrDec}, {"2", 100, api.ErrDec},
		{"1", 101, api.ErrArg}, {"1", -101, api.ErrArg}, {"0", -101, api.ErrArg}, {"0", math.MinInt, api.ErrArg}, {"1", math.MaxInt, api.ErrArg},
	} {
		got, err := dec.Power(read(t, c.a), c.n)
		refused(t, "Power", c.a, c.n, got, err, c.want)
	}
	list := []api.Dec{{}, {M: 1}, {M: -1}, {M: 2}, {M: -3}, {M: 5, E: -1}, {M: 11, E: -1}, {M: -99, E: -2}, {M: 1, E: 1}, {M: 1, E: -1}, {M: 999999999999999, E: 9}, {M: 999999999999999, E: -9}, {M: 1, E: -9}, {M: 1, E: 9}, {M: 1000000001, E: -9}, {M: 333333333, E: -9}, {M: 7, E: -1}}
	for _, a := range list {
		for n := -100; n <= 100; n++ {
			want, wrong := power(a, n)
			got, err := dec.Power(a, n)
			if wrong != api.OK {
				refused(t, "Power", a, n, got, err, wrong)
			} else {
				held(t, "Power", a, n, got, err, want)
			}
		}
	}
	for _, w := range wrongs() {
		for _, n := range []int{0, 1, -1, 101, -101, math.MinInt, math.MaxInt} {
			got, err := dec.Power(w, n)
			refused(t, "Power", w, n, got, err, api.ErrDec)
		}
	}
}

// P1.6: Text.
func TestText(t *testing.T) {
	for _, c := range []struct {
		a    api.Dec
		want string
	}{
		{api.Dec{}, "0"}, {api.Dec{M: 1}, "1"}, {api.Dec{M: -1}, "-1"}, {api.Dec{M: 1, E: 1}, "10"}, {api.Dec{M: 105, E: -1}, "10.5"}, {api.Dec{M: -5, E: -1}, "-0.5"}, {api.Dec{M: 12, E: -2}, "0.12"}, {api.Dec{M: 101, E: -3}, "0.101"},
		{api.Dec{M: 1, E: -9}, "0.000000001"}, {api.Dec{M: -1000000001, E: -9}, "-1.000000001"}, {api.Dec{M: 999999999999999, E: -9}, "999999.999999999"}, {api.Dec{M: 999999999999999, E: 9}, "999999999999999000000000"}, {api.Dec{M: -999999999999999}, "-999999999999999"}, {api.Dec{M: 1200, E: 9}, "1200000000000"},
	} {
		if s, err := dec.Text(c.a); s != c.want || err != api.OK {
			t.Errorf("Text(%v): %q, error %d; want %q", c.a, s, err, c.want)
		}
	}
	check := func(a api.Dec) {
		want := fraction(a).FloatString(9)
		want = strings.TrimSuffix(strings.TrimRight(want, "0"), ".")
		if s, err := dec.Text(a); s != want || err != api.OK {
			t.Errorf("Text(%v): %q, error %d; want %q", a, s, err, want)
		}
	}
	for _, a := range edges() {
		check(a)
	}
	d := dice(6)
	for range 20000 {
		check(d.decimal())
	}
	for _, w := range wrongs() {
		if s, err := dec.Text(w); s != "" || err != api.ErrDec {
			t.Errorf("Text(%v): %q, error %d; want ErrDec", w, s, err)
		}
	}
}

var number = regexp.MustCompile(`\A-?[0-9]{1,40}(\.[0-9]{1,40})?\z`)

// checkRead holds what Read tells against what P1.6 says of a text.
func checkRead(t *testing.T, s string) {
	t.Helper()
	a, err := dec.Read(s)
	if !number.MatchString(s) {
		refused(t, "Read", s, "", a, err, api.ErrText)
		return
	}
	x, ok := new(big.Rat).SetString(s)
	if !ok {
		t.Fatalf("no number: %q", s)
	}
	want, ok := form(x)
	if !ok {
		refused(t, "Read", s, "", a, err, api.ErrDec)
		return
	}
	held(t, "Read", s, "", a, err, &want)
}

// P1.6: Read.
func TestRead(t *testing.T) {
	zeros := func(n int) string { return strings.Repeat("0", n) }
	for s, want := range map[string]api.Dec{
		"0": {}, "-0": {}, "-0.0": {}, "00": {}, "7": {M: 7}, "-7": {M: -7}, "007": {M: 7}, "7.0": {M: 7}, "1.5": {M: 15, E: -1}, "-1.50": {M: -15, E: -1}, "100": {M: 1, E: 2}, "0.000000001": {M: 1, E: -9}, "0.0000000010": {M: 1, E: -9}, "10000000000": {M: 10, E: 9},
		zeros(40): {}, "-" + zeros(40) + "." + zeros(40): {}, zeros(39) + "3." + zeros(40): {M: 3}, zeros(25) + "999999999999999.0": {M: 999999999999999}, "999999999999999" + zeros(9): {M: 999999999999999, E: 9}, zeros(16) + "999999999999999" + zeros(9) + "." + zeros(40): {M: 999999999999999, E: 9}, "999999.999999999" + zeros(31): {M: 999999999999999, E: -9},
	} {
		a, err := dec.Read(s)
		held(t, "Read", s, "", a, err, &want)
	}
	for _, s := range []string{"0.0000000001", "0." + zeros(39) + "1", "1." + zeros(39) + "1", "1234567890123456", "1000000.000000001", "999999999999999.1", "999999999999999" + zeros(10), "1" + zeros(24), "1" + zeros(39), "-" + strings.Repeat("9", 40), "1000000000000001", "9999999999999995", "0.9999999995"} {
		a, err := dec.Read(s)
		refused(t, "Read", s, "", a, err, api.ErrDec)
	}
	for _, s := range []string{"", "-", "--1", "+1", "-+1", ".", "-.", ".5", "-.5", "5.", "5.-", "5.-1", "1.2.3", "1..2", "1-", " 1", "1 ", "1\n", "\n1", "1,5", "1e3", "0x1", "1_000", "abc", "NaN", "\u0661", "1\u0661", "\u22121", "1\x00", "\xff", "\xff1", zeros(41), "-" + zeros(41), "0." + zeros(41), zeros(41) + ".0", zeros(41) + ".", strings.Repeat("1", 41), strings.Repeat("-", 50), strings.Repeat("9", 100000), "1." + strings.Repeat("9", 100000)} {
		a, err := dec.Read(s)
		refused(t, "Read", s, "", a, err, api.ErrText)
	}
}

// P1.6: texts of one to forty-two digits on either side of the point, and texts of all kinds of bytes.
func TestReadAll(t *testing.T) {
	d := dice(7)
	for whole := range 43 {
		for part := range 43 {
			text := strings.Repeat("0", max(0, whole-d.below(16)))
			text += d.digits(1 + whole)[:whole-len(text)] + "."
			text += d.digits(1 + part)[:d.below(part+1)]
			text += strings.Repeat("0", max(0, part+whole+1-len(text)))
			for _, s := range []string{text, "-" + text, strings.TrimSuffix(text, "."), text[:whole], d.digits(1 + whole)[1:] + "." + d.digits(1 + part)[1:]} {
				checkRead(t, s)
			}
		}
	}
	for range 100000 {
		b := make([]byte, d.below(7))
		for i := range b {
			b[i] = "0123456789--..+e ,\xc3/:"[d.below(21)]
		}
		checkRead(t, string(b))
	}
	for _, a := range edges() {
		s := fraction(a).FloatString(9)
		checkRead(t, s)
		checkRead(t, strings.Repeat("0", 14)+s+strings.Repeat("0", 31))
		checkRead(t, s+"1")
	}
}

// P1.7: what is shown is read back, and what is read and shown is read as the same.
func TestShownAndRead(t *testing.T) {
	check := func(a api.Dec) {
		s, err := dec.Text(a)
		b, err2 := dec.Read(s)
		if err != api.OK || err2 != api.OK || a != b {
			t.Errorf("%v is shown as %q, which is read as %v (errors %d, %d)", a, s, b, err, err2)
		}
	}
	for _, a := range edges() {
		check(a)
	}
	d := dice(8)
	for range 20000 {
		check(d.decimal())
		s := d.digits(1+d.below(12)) + "." + d.digits(1+d.below(4))
		if a, err := dec.Read(s); err == api.OK {
			check(a)
		}
	}
}

// P1.7: sums and products may change places.
func TestPlaces(t *testing.T) {
	pairs(func(a, b api.Dec) {
		x, ex := dec.Add(a, b)
		y, ey := dec.Add(b, a)
		if x != y || ex != ey {
			t.Errorf("%v + %v: %v (%d), changed %v (%d)", a, b, x, ex, y, ey)
		}
		x, ex = dec.Mul(a, b)
		y, ey = dec.Mul(b, a)
		if x != y || ex != ey {
			t.Errorf("%v * %v: %v (%d), changed %v (%d)", a, b, x, ex, y, ey)
		}
	})
}

// P1.7: whole numbers up to fifteen digits, where what comes of them has at most fifteen.
func TestWholeExactly(t *testing.T) {
	exact := func(call string, do func(a, b api.Dec) (api.Dec, api.Errno), n, m, want int) {
		a, e1 := dec.Of(n)
		b, e2 := dec.Of(m)
		c, e3 := dec.Of(want)
		got, err := do(a, b)
		if e1 != api.OK || e2 != api.OK || e3 != api.OK || got != c || err != api.OK {
			t.Errorf("%s(%d, %d): %v, error %d; want %d", call, n, m, got, err, want)
		}
	}
	exact("Add", dec.Add, 999999999999998, 1, 999999999999999)
	exact("Add", dec.Add, 499999999999999, 500000000000000, 999999999999999)
	exact("Mul", dec.Mul, 333333333333333, 3, 999999999999999)
	exact("Mul", dec.Mul, 31622776, 31622776, 999999961946176)
	d := dice(9)
	for range 20000 {
		n, m := d.below(1<<30)*(1+d.below(400000)), d.below(1<<30)*(1+d.below(400000))
		exact("Add", dec.Add, n, m, n+m)
		exact("Add", dec.Add, n, -m, n-m)
		exact("Sub", dec.Sub, n, m, n-m)
		n, m = d.below(31622776), d.below(31622776)
		exact("Mul", dec.Mul, n, -m, -n*m)
	}
}

// beside are the right decimals next to a, below and above it.
func beside(a api.Dec) []api.Dec {
	var list []api.Dec
	for e := -api.MaxTen; e <= api.MaxTen; e++ {
		m := new(big.Rat).Quo(fraction(a), tenTo(e))
		for _, step := range []int64{-1, 1} {
			n := new(big.Rat).SetInt(floorOf(m))
			n.Add(n, big.NewRat(step, 1))
			if b, ok := form(n.Mul(n, tenTo(e))); ok && b != a {
				list = append(list, b)
			}
		}
	}
	return list
}

// P1.7: no other right decimal is nearer to what comes of a call than what it tells.
func TestNoneNearer(t *testing.T) {
	d := dice(10)
	for range 1500 {
		a, b := d.decimal(), d.decimal()
		for _, deed := range deeds() {
			got, err := deed.do(a, b)
			if err != api.OK {
				continue
			}
			x := deed.exactly(new(big.Rat), fraction(a), fraction(b))
			off := new(big.Rat).Sub(x, fraction(got))
			off.Abs(off)
			for _, other := range beside(got) {
				further := new(big.Rat).Sub(x, fraction(other))
				if further.Abs(further).Cmp(off) < 0 {
					t.Errorf("%s(%v, %v): %v, but %v is nearer", deed.name, a, b, got, other)
				}
			}
		}
	}
}

// P1.7, R2: each decimal that is told is right.
func TestToldIsRight(t *testing.T) {
	pairs(func(a, b api.Dec) {
		for _, deed := range deeds() {
			if x, err := deed.do(a, b); !dec.Right(x) || err != api.OK && x != (api.Dec{}) {
				t.Errorf("%s(%v, %v): %v, error %d", deed.name, a, b, x, err)
			}
		}
	})
}
