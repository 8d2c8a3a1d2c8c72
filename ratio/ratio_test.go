package ratio_test

import (
	"math"
	"slices"
	"testing"

	"millwright/ratio"
)

// bound is the greatest part of a share.
const bound = 1 << 24

// share is one as a weight and a cost, whole numbers both.
type share struct{ weight, cost int }

// asComplex is a share as the package has it.
func (s share) asComplex() complex128 { return complex(float64(s.weight), float64(s.cost)) }

// asComplexes is shares as the package has them.
func asComplexes(l []share) []complex128 {
	var all []complex128
	for _, s := range l {
		all = append(all, s.asComplex())
	}
	return all
}

// held is the promise of Compare once more: fractions over one denominator, in whole numbers.
func held(a, b share) int {
	mine, theirs := a.cost*b.weight, b.cost*a.weight
	switch {
	case mine < theirs:
		return -1
	case mine > theirs:
		return 1
	}
	return 0
}

// furthest is the first share that no other one is beyond, on the side of the sign.
func furthest(l []share, sign int) share {
	for _, s := range l {
		if !slices.ContainsFunc(l, func(other share) bool { return held(other, s) == sign }) {
			return s
		}
	}
	return share{}
}

// apart is the promise of Apart once more.
func apart(l []share) complex128 {
	greatest, least := furthest(l, 1), furthest(l, -1)
	return complex(float64(greatest.weight-least.weight), float64(greatest.cost-least.cost))
}

// mustCompare is a Compare that must answer so, twice (R4), and the other way round the other way.
func mustCompare(t *testing.T, a, b complex128, want int) {
	t.Helper()
	for range 2 {
		if got := ratio.Compare(a, b); got != want {
			t.Errorf("Compare %v %v: %d, want %d", a, b, got, want)
		}
		if got := ratio.Compare(b, a); got != -want {
			t.Errorf("Compare %v %v: %d, want %d", b, a, got, -want)
		}
	}
}

// mustSum is a Sum that must answer so, twice (R4), and leave the list as it was (R1).
func mustSum(t *testing.T, l []complex128, want complex128) {
	t.Helper()
	before := slices.Clone(l)
	for range 2 {
		if got := ratio.Sum(l...); got != want {
			t.Errorf("Sum %v: %v, want %v", before, got, want)
		}
		if !slices.Equal(l, before) {
			t.Errorf("Sum: the list is %v, was %v", l, before)
		}
	}
}

// mustApart is an Apart that must answer so, twice (R4), and leave the list as it was (R1).
func mustApart(t *testing.T, l []complex128, want complex128) {
	t.Helper()
	before := slices.Clone(l)
	for range 2 {
		if got := ratio.Apart(l); got != want {
			t.Errorf("Apart %v: %v, want %v", before, got, want)
		}
		if !slices.Equal(l, before) {
			t.Errorf("Apart: the list is %v, was %v", l, before)
		}
	}
}

// M1: what each number is as a part of a share.
func TestShare(t *testing.T) {
	parts := []struct {
		n    int
		want float64
	}{
		{math.MinInt, 0}, {math.MinInt + 1, 0}, {-1 << 53, 0}, {-1 << 32, 0}, {-bound, 0}, {-2, 0}, {-1, 0},
		{0, 0}, {1, 1}, {2, 2}, {7, 7}, {100, 100}, {1 << 20, 1 << 20}, {1<<23 + 1, 1<<23 + 1},
		{bound - 2, bound - 2}, {bound - 1, bound - 1}, {bound, bound},
		{bound + 1, bound}, {bound + 2, bound}, {1 << 32, bound}, {1<<32 + 1, bound}, {1 << 53, bound}, {math.MaxInt - 1, bound}, {math.MaxInt, bound},
	}
	for _, weight := range parts {
		for _, cost := range parts {
			got := ratio.Share(weight.n, cost.n)
			if real(got) != weight.want || imag(got) != cost.want {
				t.Errorf("Share %d %d: %v", weight.n, cost.n, got)
			}
			if ratio.Weight(got) != int(weight.want) || ratio.Cost(got) != int(cost.want) {
				t.Errorf("Share %d %d has weight %d, cost %d", weight.n, cost.n, ratio.Weight(got), ratio.Cost(got))
			}
		}
	}
}

// M1: what each part is as a number: cut, and from 0 to 2^53.
func TestWeightAndCost(t *testing.T) {
	parts := []struct {
		x    float64
		want int
	}{
		{0, 0}, {math.Copysign(0, -1), 0}, {1, 1}, {2, 2}, {100, 100}, {bound, bound}, {bound + 1, bound + 1}, {1 << 32, 1 << 32}, {1 << 44, 1 << 44},
		{math.SmallestNonzeroFloat64, 0}, {0.1, 0}, {0.5, 0}, {math.Nextafter(1, 0), 0}, {math.Nextafter(1, 2), 1}, {1.5, 1}, {2.9, 2}, {math.Nextafter(3, 0), 2}, {bound + 0.75, bound},
		{1<<52 - 0.5, 1<<52 - 1}, {1<<52 + 1, 1<<52 + 1}, {1<<53 - 1, 1<<53 - 1}, {1 << 53, 1 << 53},
		{1<<53 + 2, 1 << 53}, {1 << 54, 1 << 53}, {1 << 62, 1 << 53}, {1 << 63, 1 << 53}, {1 << 64, 1 << 53}, {1 << 100, 1 << 53}, {math.MaxFloat64, 1 << 53}, {math.Inf(1), 1 << 53},
		{-math.SmallestNonzeroFloat64, 0}, {-0.5, 0}, {-1, 0}, {-1.5, 0}, {-3, 0}, {-1 << 53, 0}, {-1 << 63, 0}, {-1 << 64, 0}, {-math.MaxFloat64, 0}, {math.Inf(-1), 0},
		{math.NaN(), 0}, {math.Copysign(math.NaN(), -1), 0},
	}
	for _, weight := range parts {
		for _, cost := range parts {
			a := complex(weight.x, cost.x)
			if ratio.Weight(a) != weight.want || ratio.Cost(a) != cost.want {
				t.Errorf("%v has weight %d, cost %d, want %d, %d", a, ratio.Weight(a), ratio.Cost(a), weight.want, cost.want)
			}
		}
	}
}

// M1: the sum of none, of one, and of several, each part by itself.
func TestSum(t *testing.T) {
	mustSum(t, nil, 0)
	mustSum(t, []complex128{}, 0)
	mustSum(t, []complex128{2 + 6i}, 2+6i)
	mustSum(t, []complex128{2, 6i}, 2+6i)
	mustSum(t, []complex128{2 + 6i, 1 + 4i, 3}, 6+10i)
	mustSum(t, []complex128{2 + 6i, 2 + 6i, 2 + 6i}, 6+18i)
	mustSum(t, []complex128{0, 0, 0}, 0)
	mustSum(t, []complex128{3 + 1i, -3 - 4i, 0.5}, 0.5-3i)
	if got := ratio.Sum(2+6i, 1+4i); got != 3+10i {
		t.Errorf("%v", got)
	}
	if got := ratio.Sum(); got != 0 {
		t.Errorf("%v", got)
	}
}

// M1: a sum of as many of the greatest shares as any list has: it is not bounded as a share is, and nothing of it is lost.
func TestLongestSum(t *testing.T) {
	const many = 1000000
	l := slices.Repeat([]complex128{complex(bound, bound-1)}, many)
	got := ratio.Sum(l...)
	if got != complex(many*bound, many*(bound-1)) {
		t.Errorf("%v", got)
	}
	if ratio.Weight(got) != many*bound || ratio.Cost(got) != many*(bound-1) {
		t.Errorf("%d %d", ratio.Weight(got), ratio.Cost(got))
	}
}

// M1: the document's example, and what is near it.
func TestCompare(t *testing.T) {
	mustCompare(t, 2+6i, 1+4i, -1)
	mustCompare(t, 2+6i, 1+3i, 0)
	mustCompare(t, 2+6i, 1+2i, 1)
	mustCompare(t, 2+6i, 2+6i, 0)
	mustCompare(t, 2+6i, 3+6i, 1)
	mustCompare(t, 2+6i, 2+7i, -1)
	mustCompare(t, 1, 5, 0)
	mustCompare(t, 1, 5+1i, -1)
	mustCompare(t, bound, 1, 0)
	mustCompare(t, bound+1i, 1, 1)
}

// M1: all shares of small numbers, against each other.
func TestCompareSmall(t *testing.T) {
	var all []share
	for weight := 1; weight <= 24; weight++ {
		for cost := range 25 {
			all = append(all, share{weight, cost})
		}
	}
	for _, a := range all {
		for _, b := range all {
			mustCompare(t, a.asComplex(), b.asComplex(), held(a, b))
		}
	}
}

// M1: all shares of numbers about the bounds, against each other: not even the closest are taken for the same.
func TestCompareLarge(t *testing.T) {
	var all []share
	weights := []int{1, 2, 3, 5, 1000, 46368, 1<<12 - 1, 1 << 12, 1<<12 + 1, 1<<23 - 1, 1 << 23, 1<<23 + 1, 10946, 9227465, 14930352, bound - 3, bound - 2, bound - 1, bound}
	for _, weight := range weights {
		for _, cost := range append([]int{0}, weights...) {
			all = append(all, share{weight, cost})
		}
	}
	for _, a := range all {
		for _, b := range all {
			mustCompare(t, a.asComplex(), b.asComplex(), held(a, b))
		}
	}
}

// M1: fractions that are as close as any two of their weights can be, one from below, one from above, in turn.
func TestCompareClosest(t *testing.T) {
	for first := 1; first <= 40; first++ {
		a, b := share{1, 0}, share{first, 1}
		for b.weight <= bound && b.cost <= bound {
			want := held(a, b)
			if want == 0 {
				t.Fatalf("%v %v are the same", a, b)
			}
			mustCompare(t, a.asComplex(), b.asComplex(), want)
			a, b = b, share{a.weight + b.weight, a.cost + b.cost}
		}
	}
}

// M1: a share and the same so many times over are the same, and one more cost tells them apart.
func TestCompareMultiples(t *testing.T) {
	for weight := 1; weight <= 12; weight++ {
		for cost := range 13 {
			for _, times := range []int{1, 2, 3, 1000, 99991, 1 << 20} {
				a, b := share{weight, cost}, share{weight * times, cost * times}
				mustCompare(t, a.asComplex(), b.asComplex(), 0)
				b.cost++
				mustCompare(t, a.asComplex(), b.asComplex(), -1)
			}
		}
	}
}

// M1: of numbers that are no such shares too the answer is -1, 0 or 1.
func TestCompareOthers(t *testing.T) {
	var all []complex128
	parts := []float64{math.NaN(), math.Inf(-1), -math.MaxFloat64, -1, -math.SmallestNonzeroFloat64, math.Copysign(0, -1), 0, math.SmallestNonzeroFloat64, 0.5, 1, bound + 1, 1 << 53, math.MaxFloat64, math.Inf(1)}
	for _, weight := range parts {
		for _, cost := range parts {
			all = append(all, complex(weight, cost))
		}
	}
	for _, a := range all {
		for _, b := range all {
			got := ratio.Compare(a, b)
			if got < -1 || got > 1 || got != ratio.Compare(a, b) {
				t.Errorf("Compare %v %v: %d", a, b, got)
			}
			ratio.Sum(a, b)
			ratio.Apart([]complex128{a, b})
		}
	}
}

// M2: of none, of one, and of two, whichever comes first.
func TestApart(t *testing.T) {
	mustApart(t, nil, 0)
	mustApart(t, []complex128{}, 0)
	mustApart(t, []complex128{3 + 1i}, 0)
	mustApart(t, []complex128{5}, 0)
	mustApart(t, []complex128{2 + 6i, 1 + 4i}, -1-2i)
	mustApart(t, []complex128{1 + 4i, 2 + 6i}, -1-2i)
	mustApart(t, []complex128{2 + 6i, 1 + 4i, 5 + 5i, 2 + 8i}, -4-1i)
	mustApart(t, []complex128{100 + 1i, 1 + 1i}, -99)
	mustApart(t, []complex128{1, bound + bound*1i}, bound-1+bound*1i)
	mustApart(t, []complex128{bound, 1 + bound*1i}, 1-bound+bound*1i)
}

// M2: by cost by weight, and neither by cost nor by weight nor by how large a share is.
func TestApartByCostByWeight(t *testing.T) {
	mustApart(t, []complex128{50 + 100i, 1 + 3i, 10 + 10i}, -9-7i)
	mustApart(t, []complex128{10 + 10i, 1 + 3i, 50 + 100i}, -9-7i)
	mustApart(t, []complex128{1 + 1i, 1 + 2i, 1 + 3i}, 2i)
	mustApart(t, []complex128{3 + 1i, 2 + 1i, 1 + 1i}, -2)
}

// M2: of several that are the greatest, or the least, the first ones.
func TestApartFirst(t *testing.T) {
	mustApart(t, []complex128{1 + 3i, 2 + 6i}, 0)
	mustApart(t, []complex128{2 + 6i, 1 + 3i, 3 + 9i}, 0)
	mustApart(t, []complex128{1 + 3i, 2 + 6i, 1 + 1i}, 2i)
	mustApart(t, []complex128{2 + 6i, 1 + 3i, 1 + 1i}, 1+5i)
	mustApart(t, []complex128{1 + 1i, 2 + 2i, 1 + 3i}, 2i)
	mustApart(t, []complex128{2 + 2i, 1 + 1i, 1 + 3i}, -1+1i)
	mustApart(t, []complex128{3, 4, 5 + 5i, 6 + 6i}, 2+5i)
	mustApart(t, []complex128{4, 3, 6 + 6i, 5 + 5i}, 2+6i)
}

// M2: all lists of up to four of some shares.
func TestApartAllShort(t *testing.T) {
	var all []share
	for weight := 1; weight <= 3; weight++ {
		for cost := range 4 {
			all = append(all, share{weight, cost})
		}
	}
	lists := [][]share{{}}
	for len(lists[0]) < 4 {
		var longer [][]share
		for _, l := range lists {
			mustApart(t, asComplexes(l), apart(l))
			for _, s := range all {
				longer = append(longer, append(slices.Clone(l), s))
			}
		}
		lists = longer
	}
	for _, l := range lists {
		if got := ratio.Apart(asComplexes(l)); got != apart(l) {
			t.Errorf("Apart %v: %v, want %v", l, got, apart(l))
		}
	}
}

// M2: long lists, of many that are alike, of few, and of those that are close and large.
func TestApartLong(t *testing.T) {
	for seed := range 2000 {
		x := seed
		next := func(n int) int {
			x = (x*1103515245 + 12345) & (1<<31 - 1)
			return (x >> 8) % n
		}
		wide := []int{3, 10, 100, 1000}[seed%4]
		base := []int{0, bound - wide}[seed/4%2]
		l := make([]share, 1+next(50))
		for i := range l {
			l[i] = share{base + 1 + next(wide), base + next(wide+1)}
		}
		mustApart(t, asComplexes(l), apart(l))
	}
}

// M2: a list as long as any of which something is promised.
func TestApartLongest(t *testing.T) {
	l := slices.Repeat([]complex128{2 + 2i, 1 + 1i}, 500000)
	mustApart(t, l, 0)
	l[700000], l[900000] = 3+4i, 5+4i
	mustApart(t, l, -2)
}

// R1: what lies behind a list's end is neither counted nor written over.
func TestBehindTheList(t *testing.T) {
	whole := []complex128{2 + 6i, 1 + 4i, 1 + 100i}
	mustApart(t, whole[:2], -1-2i)
	mustSum(t, whole[:2], 3+10i)
	if whole[2] != 1+100i {
		t.Errorf("%v", whole[2])
	}
}
