package calc

import (
	"math"
	"math/big"
	"slices"
	"testing"
)

const (
	most  = math.MaxInt64
	least = math.MinInt64
)

// edges: numbers about which sums, products and quotients turn.
func edges() []int64 {
	var l []int64
	for _, n := range []int64{0, 3, 7, 10, 1 << 31, 1 << 32, 3037000499, 1 << 62, most / 2, most - 1, most} {
		l = append(l, n-2, n-1, n, -n, -n-1, -n+1)
		if n < most {
			l = append(l, n+1)
		}
	}
	return append(l, least, least+1)
}

// whole: the number and true, if it is an int64; else 0 and false.
func whole(n *big.Int) (int64, bool) {
	if !n.IsInt64() {
		return 0, false
	}
	return n.Int64(), true
}

// exactUp: a by b, rounded towards greater numbers, without a limit.
func exactUp(a, b int64) (int64, bool) {
	if b == 0 {
		return 0, false
	}
	// Euclid's rest is never below 0: minus the floor of minus a by b is wanted.
	x, y := big.NewInt(a), big.NewInt(b)
	if b < 0 {
		x.Neg(x)
		y.Neg(y)
	}
	q, _ := new(big.Int).DivMod(x.Neg(x), y, new(big.Int))
	return whole(q.Neg(q))
}

func exactSum(l []int64) (int64, bool) {
	sum := new(big.Int)
	for _, n := range l {
		sum.Add(sum, big.NewInt(n))
	}
	return whole(sum)
}

type answer struct {
	n  int64
	ok bool
}

func told(n int64, ok bool) answer { return answer{n, ok} }

// P1.1, P1.3: at all edges the exact number, or none.
func TestTwoNumbersAreExact(t *testing.T) {
	for _, a := range edges() {
		for _, b := range edges() {
			x, y := big.NewInt(a), big.NewInt(b)
			if got, want := told(Add(a, b)), told(whole(new(big.Int).Add(x, y))); got != want {
				t.Errorf("P1.1: Add(%d, %d): %v, not %v", a, b, got, want)
			}
			if got, want := told(Mul(a, b)), told(whole(new(big.Int).Mul(x, y))); got != want {
				t.Errorf("P1.1: Mul(%d, %d): %v, not %v", a, b, got, want)
			}
			if got, want := told(Up(a, b)), told(exactUp(a, b)); got != want {
				t.Errorf("P1.1: Up(%d, %d): %v, not %v", a, b, got, want)
			}
		}
	}
}

// P1.1: rows written by hand, so that no other reckoning stands between.
func TestTwoNumbersByHand(t *testing.T) {
	for _, c := range []struct {
		name      string
		got, want answer
	}{
		{"add", told(Add(2, 3)), answer{5, true}},
		{"add to most", told(Add(most-1, 1)), answer{most, true}},
		{"add past most", told(Add(most, 1)), answer{}},
		{"add to least", told(Add(least+1, -1)), answer{least, true}},
		{"add past least", told(Add(least, -1)), answer{}},
		{"mul", told(Mul(-3, 4)), answer{-12, true}},
		{"mul by 0", told(Mul(0, least)), answer{0, true}},
		{"mul to least", told(Mul(1<<62, -2)), answer{least, true}},
		{"mul past most", told(Mul(1<<62, 2)), answer{}},
		{"mul least by -1", told(Mul(least, -1)), answer{}},
		{"mul -1 by least", told(Mul(-1, least)), answer{}},
		{"up", told(Up(7, 2)), answer{4, true}},
		{"up without a rest", told(Up(6, 2)), answer{3, true}},
		{"up below 0", told(Up(-7, 2)), answer{-3, true}},
		{"up by one below 0", told(Up(7, -2)), answer{-3, true}},
		{"up of two below 0", told(Up(-7, -2)), answer{4, true}},
		{"up between -1 and 0", told(Up(-1, 2)), answer{0, true}},
		{"up by 0", told(Up(5, 0)), answer{}},
		{"up of 0 by 0", told(Up(0, 0)), answer{}},
		{"up past most", told(Up(least, -1)), answer{}},
	} {
		if c.got != c.want {
			t.Errorf("P1.1: %s: %v, not %v", c.name, c.got, c.want)
		}
	}
}

// lists: all lists of so many of these numbers.
func lists(of []int64, long int) [][]int64 {
	if long == 0 {
		return [][]int64{nil}
	}
	var all [][]int64
	for _, l := range lists(of, long-1) {
		for _, n := range of {
			all = append(all, append(slices.Clone(l), n))
		}
	}
	return all
}

// P1.1, P1.3: the sum as a whole counts, whatever lies between.
func TestSumIsExact(t *testing.T) {
	for long := range 6 {
		for _, l := range lists([]int64{least, least + 1, -1, 0, 1, most - 1, most}, long) {
			if got, want := told(Sum(l)), told(exactSum(l)); got != want {
				t.Errorf("P1.1: Sum(%v): %v, not %v", l, got, want)
			}
		}
	}
}

// repeated: n, so many times.
func repeated(n int64, times int) []int64 {
	return slices.Repeat([]int64{n}, times)
}

// P1.1: a sum that leaves int64 far, and may come back.
func TestSumOfMany(t *testing.T) {
	for _, c := range []struct {
		name string
		l    []int64
		want answer
	}{
		{"nil", nil, answer{0, true}},
		{"empty", []int64{}, answer{0, true}},
		{"one", []int64{least}, answer{least, true}},
		{"up and back", append(repeated(most, 1000), repeated(-most, 1000)...), answer{0, true}},
		{"down and back", append(repeated(-most, 1000), repeated(most, 1001)...), answer{most, true}},
		{"up and not all back", append(repeated(most, 1000), repeated(-most, 998)...), answer{}},
		{"back by the last one", append(repeated(1<<62, 4), least, -1), answer{most, true}},
		{"not back by the last one", append(repeated(1<<62, 4), least), answer{}},
		{"down to least", append(repeated(-1<<62, 4), most, 1), answer{least, true}},
		{"past least", append(repeated(-1<<62, 4), most), answer{}},
		{"in small steps", append(repeated(1, 1000), most-1000), answer{most, true}},
		{"one step more", append(repeated(1, 1000), most-999), answer{}},
		{"0 as a whole of 2^64", repeated(1<<62, 4), answer{}},
	} {
		if got := told(Sum(c.l)); got != c.want {
			t.Errorf("P1.1: sum, %s: %v, not %v", c.name, got, c.want)
		}
	}
}

// DOC.md's rule 3: what is handed in is not changed.
func TestSumLeavesItsList(t *testing.T) {
	l := []int64{most, 1, -1, 5, 6}[:3]
	Sum(l)
	if !slices.Equal(l[:5], []int64{most, 1, -1, 5, 6}) {
		t.Errorf("Sum changed its list: %v", l[:5])
	}
}

// P1.2: n, lo or hi; lo, if hi is below lo.
func TestClip(t *testing.T) {
	for _, c := range []struct{ n, lo, hi, want int64 }{
		{5, 1, 9, 5},
		{1, 1, 9, 1},
		{9, 1, 9, 9},
		{0, 1, 9, 1},
		{10, 1, 9, 9},
		{0, 4, 4, 4},
		{4, 4, 4, 4},
		{5, 4, 4, 4},
		{0, 9, 1, 9},
		{5, 9, 1, 9},
		{10, 9, 1, 9},
		{9, 9, 8, 9},
		{8, 9, 8, 9},
		{-5, -9, -1, -5},
		{least, least, most, least},
		{most, least, most, most},
		{0, most, least, most},
		{most, least, least, least},
	} {
		if got := Clip(c.n, c.lo, c.hi); got != c.want {
			t.Errorf("P1.2: Clip(%d, %d, %d): %d, not %d", c.n, c.lo, c.hi, got, c.want)
		}
	}
}
