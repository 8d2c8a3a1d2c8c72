package num_test

import (
	"math"
	"math/big"
	"strings"
	"testing"

	"millwright/api"
	"millwright/num"
)

// edges are numbers around which sums and products leave an int.
func edges() []int {
	var l []int
	for _, n := range []int{0, 7, 10, 1 << 20, 1 << 31, 1 << 32, 3037000499, 1 << 62, math.MaxInt - 1, math.MinInt + 2} {
		for d := -2; d <= 1; d++ {
			l = append(l, n+d, -(n + d))
		}
	}
	return append(l, math.MaxInt, math.MinInt)
}

// A1: every pair of edges, against numbers that have no bound.
func TestCheckedAgainstBig(t *testing.T) {
	calls := []struct {
		name string
		do   func(a, b int) (int, bool)
		big  func(z, a, b *big.Int) *big.Int
	}{
		{"Add", num.Add, (*big.Int).Add},
		{"Sub", num.Sub, (*big.Int).Sub},
		{"Mul", num.Mul, (*big.Int).Mul},
	}
	for _, c := range calls {
		held, left := 0, 0
		for _, a := range edges() {
			for _, b := range edges() {
				exact := c.big(new(big.Int), big.NewInt(int64(a)), big.NewInt(int64(b)))
				want, wantOK := 0, exact.IsInt64()
				if wantOK {
					want = int(exact.Int64())
					held++
				} else {
					left++
				}
				if n, ok := c.do(a, b); n != want || ok != wantOK {
					t.Errorf("%s(%d, %d): %d %v, want %d %v", c.name, a, b, n, ok, want, wantOK)
				}
			}
		}
		if held == 0 || left == 0 {
			t.Errorf("%s: %d pairs fit and %d do not: both kinds must be tried", c.name, held, left)
		}
	}
}

// A1: the pairs that wrap-round hides best, written out.
func TestCheckedAtTheBound(t *testing.T) {
	for _, x := range []struct {
		name string
		do   func(a, b int) (int, bool)
		a, b int
		want int
		ok   bool
	}{
		{"Add", num.Add, 2, 3, 5, true},
		{"Add", num.Add, math.MaxInt, 0, math.MaxInt, true},
		{"Add", num.Add, math.MaxInt, 1, 0, false},
		{"Add", num.Add, math.MinInt, -1, 0, false},
		{"Add", num.Add, math.MinInt, math.MinInt, 0, false},
		{"Add", num.Add, math.MaxInt, math.MaxInt, 0, false},
		{"Add", num.Add, math.MinInt, math.MaxInt, -1, true},
		{"Sub", num.Sub, 2, 3, -1, true},
		{"Sub", num.Sub, 0, math.MinInt, 0, false},
		{"Sub", num.Sub, -1, math.MinInt, math.MaxInt, true},
		{"Sub", num.Sub, math.MinInt, math.MinInt, 0, true},
		{"Sub", num.Sub, math.MinInt, 0, math.MinInt, true},
		{"Sub", num.Sub, math.MinInt, 1, 0, false},
		{"Sub", num.Sub, math.MaxInt, -1, 0, false},
		{"Mul", num.Mul, 6, -7, -42, true},
		{"Mul", num.Mul, math.MinInt, 0, 0, true},
		{"Mul", num.Mul, 0, math.MinInt, 0, true},
		{"Mul", num.Mul, math.MinInt, 1, math.MinInt, true},
		{"Mul", num.Mul, math.MinInt, -1, 0, false},
		{"Mul", num.Mul, -1, math.MinInt, 0, false},
		{"Mul", num.Mul, 1 << 32, 1 << 31, 0, false},
		{"Mul", num.Mul, 1 << 32, 1 << 32, 0, false},
		{"Mul", num.Mul, 1 << 32, -1 << 31, math.MinInt, true},
	} {
		if n, ok := x.do(x.a, x.b); n != x.want || ok != x.ok {
			t.Errorf("%s(%d, %d): %d %v, want %d %v", x.name, x.a, x.b, n, ok, x.want, x.ok)
		}
	}
}

// A2: numbers, MaxNumber and what is above it, and texts that are no number.
func TestParse(t *testing.T) {
	for _, x := range []struct {
		s    string
		want int
		err  api.Errno
	}{
		{"0", 0, api.OK},
		{"7", 7, api.OK},
		{"10", 10, api.OK},
		{"123456", 123456, api.OK},
		{"987650", 987650, api.OK},
		{"1048575", api.MaxNumber - 1, api.OK},
		{"1048576", api.MaxNumber, api.OK},
		{"1048577", 0, api.ErrRange},
		{"9999999", 0, api.ErrRange},
		{"10485760", 0, api.ErrRange},
		{"9223372036854775808", 0, api.ErrRange},
		{"18446744073709551616", 0, api.ErrRange},
		{"18446744073709551623", 0, api.ErrRange},
		{"1" + strings.Repeat("0", 10000), 0, api.ErrRange},
		{strings.Repeat("9", 10000), 0, api.ErrRange},
		{"", 0, api.ErrSyntax},
		{"00", 0, api.ErrSyntax},
		{"007", 0, api.ErrSyntax},
		{"01048577", 0, api.ErrSyntax},
		{"0x1", 0, api.ErrSyntax},
		{"-1", 0, api.ErrSyntax},
		{"-0", 0, api.ErrSyntax},
		{"+1", 0, api.ErrSyntax},
		{"-", 0, api.ErrSyntax},
		{" 1", 0, api.ErrSyntax},
		{"1 ", 0, api.ErrSyntax},
		{"1\n", 0, api.ErrSyntax},
		{"1\x00", 0, api.ErrSyntax},
		{"1_0", 0, api.ErrSyntax},
		{"1.0", 0, api.ErrSyntax},
		{"1e3", 0, api.ErrSyntax},
		{"/", 0, api.ErrSyntax},
		{":", 0, api.ErrSyntax},
		{"12a", 0, api.ErrSyntax},
		{"a12", 0, api.ErrSyntax},
		{"1\xff", 0, api.ErrSyntax},
		{"\xff", 0, api.ErrSyntax},
		{"\xb1", 0, api.ErrSyntax},
		{"\u0663", 0, api.ErrSyntax},
		{"\uff11", 0, api.ErrSyntax},
		{strings.Repeat("9", 10000) + "x", 0, api.ErrSyntax},
	} {
		if n, err := num.Parse(x.s); n != x.want || err != x.err {
			t.Errorf("Parse(%.40q): %d %v, want %d %v", x.s, n, err, x.want, x.err)
		}
	}
}

// A2: of all bytes only ten are a number by themselves.
func TestParseOfEachByte(t *testing.T) {
	for b := range 256 {
		want, wantErr := 0, api.ErrSyntax
		if b >= '0' && b <= '9' {
			want, wantErr = b-'0', api.OK
		}
		if n, err := num.Parse(string([]byte{byte(b)})); n != want || err != wantErr {
			t.Errorf("Parse of byte %d: %d %v, want %d %v", b, n, err, want, wantErr)
		}
	}
}

// A2: Text of numbers on both sides of 0.
func TestText(t *testing.T) {
	for _, x := range []struct {
		n    int
		want string
	}{
		{0, "0"},
		{5, "5"},
		{10, "10"},
		{1048577, "1048577"},
		{-1, "-1"},
		{-10, "-10"},
		{math.MaxInt, "9223372036854775807"},
		{math.MinInt, "-9223372036854775808"},
	} {
		if s := num.Text(x.n); s != x.want {
			t.Errorf("Text(%d): %q, want %q", x.n, s, x.want)
		}
	}
}

// What follows: Parse reads whatever Text writes, from 0 to MaxNumber, and refuses it outside.
func TestParseReadsText(t *testing.T) {
	for n := 0; n <= api.MaxNumber; n++ {
		if got, err := num.Parse(num.Text(n)); got != n || err != api.OK {
			t.Fatalf("Parse(Text(%d)): %d %v", n, got, err)
		}
	}
	for n := 1; n <= 1000; n++ {
		if got, err := num.Parse(num.Text(-n)); got != 0 || err != api.ErrSyntax {
			t.Errorf("Parse(Text(%d)): %d %v", -n, got, err)
		}
		if got, err := num.Parse(num.Text(api.MaxNumber + n)); got != 0 || err != api.ErrRange {
			t.Errorf("Parse(Text(%d)): %d %v", api.MaxNumber+n, got, err)
		}
	}
}

// A3: with and without reaching most, with numbers below 0, and with more doublings than an int has bits.
func TestDouble(t *testing.T) {
	for _, x := range []struct{ base, n, most, want int }{
		{3, 2, 100, 12},
		{3, 0, 100, 3},
		{3, 1, 100, 6},
		{3, 5, 100, 96},
		{3, 5, 96, 96},
		{3, 5, 95, 95},
		{3, 6, 100, 100},
		{100, 0, 100, 100},
		{101, 0, 100, 100},
		{200, 3, 100, 100},
		{3, 2, 0, 0},
		{0, 5, 100, 0},
		{0, 0, 0, 0},
		{5, -1, 100, 5},
		{5, math.MinInt, 100, 5},
		{200, -1, 100, 100},
		{-5, 3, 100, 0},
		{math.MinInt, 1, 100, 0},
		{5, 3, -1, 0},
		{5, 3, math.MinInt, 0},
		{-1, -1, -1, 0},
		{1, 62, math.MaxInt, 1 << 62},
		{1, 63, math.MaxInt, math.MaxInt},
		{1, 64, math.MaxInt, math.MaxInt},
		{1 << 62, 1, math.MaxInt, math.MaxInt},
		{math.MaxInt, 1, math.MaxInt, math.MaxInt},
		{math.MaxInt, math.MaxInt, math.MaxInt, math.MaxInt},
		{math.MaxInt/2 + 1, 1, math.MaxInt, math.MaxInt},
		{math.MaxInt / 2, 1, math.MaxInt, math.MaxInt - 1},
		{1, math.MaxInt, 100, 100},
		{0, math.MaxInt, math.MaxInt, 0},
		{-1, math.MaxInt, math.MaxInt, 0},
	} {
		if n := num.Double(x.base, x.n, x.most); n != x.want {
			t.Errorf("Double(%d, %d, %d): %d, want %d", x.base, x.n, x.most, n, x.want)
		}
	}
}

// A3: all small arguments, against doubling that has no bound.
func TestDoubleAgainstBig(t *testing.T) {
	for base := -2; base <= 9; base++ {
		for n := -2; n <= 70; n++ {
			for most := -2; most <= 127; most++ {
				exact := new(big.Int).Lsh(big.NewInt(int64(max(base, 0))), uint(max(n, 0)))
				want := max(most, 0)
				if exact.IsInt64() && exact.Int64() < int64(want) {
					want = int(exact.Int64())
				}
				if got := num.Double(base, n, most); got != want {
					t.Errorf("Double(%d, %d, %d): %d, want %d", base, n, most, got, want)
				}
			}
		}
	}
}
