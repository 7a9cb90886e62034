package count

import (
	"math"
	"math/big"
	"testing"

	"swingbridge/api"
)

const (
	most    = math.MaxInt
	least   = math.MinInt
	ceiling = api.MaxTime
)

// P12.1: rows by hand: window and bound together by period, rounded up.
func TestJobs(t *testing.T) {
	for _, c := range []struct{ window, bound, period, want int }{
		{10, 3, 5, 3},
		{1, 0, 1, 1}, {1, 0, 5, 1}, {5, 0, 5, 1}, {6, 0, 5, 2},
		{4, 1, 5, 1}, {4, 2, 5, 2}, {2, 4, 5, 2}, {1, 5, 5, 2}, {3, 3, 5, 2}, {4, 6, 5, 2}, {4, 7, 5, 3},
		{10, 10, 5, 4}, {11, 9, 5, 4}, {11, 10, 5, 5},
		{0, 3, 5, 0}, {-1, 3, 5, 0}, {least, 3, 5, 0}, {0, 0, 1, 0},
		{1, -1, 1, 0}, {10, -1, 5, 0}, {10, least, 5, 0},
		{10, 3, 0, 0}, {10, 3, -1, 0}, {10, 3, least, 0},
		{ceiling - 1, 0, 1, ceiling - 1}, {ceiling, 0, 1, ceiling}, {ceiling + 1, 0, 1, ceiling}, {ceiling - 1, 1, 1, ceiling}, {ceiling - 1, 2, 1, ceiling}, {1, ceiling, 1, ceiling},
		{2*ceiling - 1, 0, 2, ceiling}, {2*ceiling - 2, 1, 2, ceiling}, {2*ceiling - 3, 1, 2, ceiling - 1}, {2*ceiling - 2, 0, 2, ceiling - 1},
		{most, most, 1, ceiling}, {most, 0, 1, ceiling}, {1, most, 1, ceiling},
		{most, 0, most, 1}, {most, 1, most, 2}, {most, most, most, 2}, {most - 1, most - 1, most, 2}, {1, most - 1, most, 1},
		{most, most - 1, most, 2}, {most, most, most - 1, 3}, {most, most, most / 2, 5},
	} {
		if got := Jobs(c.window, c.bound, c.period); got != c.want {
			t.Errorf("P12.1: Jobs(%d, %d, %d): %d, not %d", c.window, c.bound, c.period, got, c.want)
		}
	}
}

// exact: what Work tells, reckoned without a limit; Jobs is that of 1 each.
func exact(window, bound, period, each int) int {
	if window < 1 || bound < 0 || period < 1 || each < 0 {
		return 0
	}
	n := new(big.Int).Add(big.NewInt(int64(window)), big.NewInt(int64(bound)))
	n.Add(n, big.NewInt(int64(period-1)))
	n.Div(n, big.NewInt(int64(period)))
	n.Mul(n, big.NewInt(int64(each)))
	if n.Cmp(big.NewInt(ceiling)) > 0 {
		return ceiling
	}
	return int(n.Int64())
}

// P12.1, P12.2: at all edges, exactly.
func TestAgainstGreatNumbers(t *testing.T) {
	var edges []int
	for _, n := range []int{0, 7, 3000, ceiling, 1 << 31, 1 << 32, 1 << 62, most / 2, most - 2, most} {
		edges = append(edges, n, n-1, n-2, -n)
		if n < most {
			edges = append(edges, n+1, n+2)
		}
	}
	edges = append(edges, least)
	for _, window := range edges {
		for _, bound := range edges {
			for _, period := range edges {
				if got, want := Jobs(window, bound, period), exact(window, bound, period, 1); got != want {
					t.Fatalf("P12.1: Jobs(%d, %d, %d): %d, not %d", window, bound, period, got, want)
				}
				for _, each := range []int{least, -1, 0, 1, 2, 60, ceiling, most} {
					if got, want := Work(window, bound, period, each), exact(window, bound, period, each); got != want {
						t.Fatalf("P12.1: Work(%d, %d, %d, %d): %d, not %d", window, bound, period, each, got, want)
					}
				}
			}
		}
	}
}

// P12.1: Work: so many jobs times each, at most MaxTime.
func TestWork(t *testing.T) {
	for _, c := range []struct{ window, bound, period, each, want int }{
		{10, 3, 5, 4, 12},
		{10, 3, 5, 0, 0}, {10, 3, 5, -4, 0}, {10, 3, 5, least, 0},
		{0, 3, 5, 4, 0}, {10, -1, 5, 4, 0}, {10, 3, 0, 4, 0}, {0, -1, 0, least, 0},
		{1, 0, 1, ceiling - 1, ceiling - 1}, {1, 0, 1, ceiling, ceiling}, {1, 0, 1, ceiling + 1, ceiling}, {1, 0, 1, most, ceiling},
		{2, 0, 1, ceiling / 2, ceiling}, {2, 0, 1, ceiling/2 + 1, ceiling}, {2, 0, 1, ceiling/2 - 1, ceiling - 2},
		{ceiling, 0, 1, 1, ceiling}, {ceiling, 0, 1, 0, 0}, {most, most, 1, most, ceiling}, {1, 1, most, most, ceiling},
	} {
		if got := Work(c.window, c.bound, c.period, c.each); got != c.want {
			t.Errorf("P12.1: Work(%d, %d, %d, %d): %d, not %d", c.window, c.bound, c.period, c.each, got, c.want)
		}
	}
}

// P12.2: however the jobs come, period apart at least, and however late each is, within bound:
// no more of them do anything within the window; and one less can.
func TestJobsOfAll(t *testing.T) {
	for window := 1; window <= 12; window++ {
		for bound := 1; bound <= 9; bound++ {
			for period := 1; period <= 7; period++ {
				// The first job is done with its last tick in the first one of the window; the others follow closely.
				n := 0
				for release := 1 - bound; release < window; release += period {
					n++
				}
				got := Jobs(window, bound, period)
				if got < n || got > n+1 {
					t.Errorf("P12.2: Jobs(%d, %d, %d): %d, of %d that can be", window, bound, period, got, n)
				}
			}
		}
	}
}
