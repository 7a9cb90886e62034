package tape

import (
	"math"
	"slices"
	"testing"
)

const (
	most  = math.MaxInt
	least = math.MinInt
)

// picks: the tape picks that, and has used so many from then on.
func picks(t *testing.T, tp *Tape, lo, hi, want, used int) {
	t.Helper()
	if got := tp.Pick(lo, hi); got != want || tp.Used() != used {
		t.Errorf("P20.1: Pick(%d, %d): %d, %d used, not %d, %d", lo, hi, got, tp.Used(), want, used)
	}
}

// P20.1: the next byte, round and round.
func TestRoundAndRound(t *testing.T) {
	tp := New([]byte{3, 0, 255, 7})
	if tp.Used() != 0 {
		t.Errorf("P20.1: a new one has used %d", tp.Used())
	}
	for round := range 3 {
		picks(t, tp, 0, 9, 3, 4*round+1)
		picks(t, tp, 0, 9, 0, 4*round+2)
		picks(t, tp, 0, 9, 5, 4*round+3)
		picks(t, tp, 0, 9, 7, 4*round+4)
	}
	tp = New([]byte{200})
	for n := range 5 {
		picks(t, tp, 0, 99, 0, 2*n+1)
		picks(t, tp, -100, 98, -99, 2*n+2)
	}
}

// P20.1: the rest by how many there are to choose from.
func TestRest(t *testing.T) {
	for b := range 256 {
		for _, c := range []struct{ lo, hi, want int }{
			{0, 1, b % 2}, {1, 60, 1 + b%60}, {-3, 3, -3 + b%7}, {5, 258, 5 + b%254}, {5, 259, 5 + b%255},
			{0, 255, b}, {0, 256, b}, {0, 65534, b}, {0, 65535, b}, {0, 65536, b}, {-70000, 70000, -70000 + b},
			{0, most, b}, {least, -1, least + b}, {least, least + 2, least + b%3}, {most - 2, most, most - 2 + b%3},
			// These go round, below 0.
			{least, 0, least + b%2}, {-1, most, -1 + b%2}, {least, most, least + b%2}, {-most, most, -most + b%2},
		} {
			picks(t, New([]byte{byte(b), 9}), c.lo, c.hi, c.want, 1)
		}
	}
}

// P20.1: hi that isn't above lo: nothing is used, also of no bytes.
func TestNothingToChoose(t *testing.T) {
	for _, b := range [][]byte{{1, 0}, nil} {
		tp := New(b)
		for _, c := range [][2]int{{0, 0}, {1, 0}, {5, -5}, {most, least}, {most, most}, {least, least}, {1, least}} {
			picks(t, tp, c[0], c[1], c[1], 0)
		}
		picks(t, tp, 0, 1, 1, 1)
		picks(t, tp, 1, 1, 1, 1)
		picks(t, tp, 1, 0, 0, 1)
	}
	// The byte that wasn't used is still the next one.
	tp := New([]byte{4, 8})
	picks(t, tp, 0, 9, 4, 1)
	picks(t, tp, 9, 9, 9, 1)
	picks(t, tp, 0, 9, 8, 2)
}

// P20.1: no bytes: always hi, and one is used.
func TestNoBytes(t *testing.T) {
	for _, tp := range []*Tape{New(nil), New([]byte{}), New([]byte{7}[:0])} {
		picks(t, tp, 0, 1, 1, 1)
		picks(t, tp, 1, 60, 60, 2)
		picks(t, tp, least, most, most, 3)
		picks(t, tp.Copy(), 0, 9, 9, 4)
		picks(t, tp, -9, -3, -3, 4)
	}
}

// P20.1: another one that is alike; neither is touched by the other one.
func TestCopy(t *testing.T) {
	tp := New([]byte{3, 0, 255})
	picks(t, tp, 0, 9, 3, 1)
	c := tp.Copy()
	if c.Used() != 1 {
		t.Errorf("P20.1: a copy has used %d", c.Used())
	}
	picks(t, tp, 0, 9, 0, 2)
	picks(t, tp, 0, 9, 5, 3)
	picks(t, tp, 0, 9, 3, 4)
	picks(t, c, 0, 9, 0, 2)
	end := c.Copy()
	picks(t, c, 0, 9, 5, 3)
	picks(t, c.Copy(), 0, 9, 3, 4)
	picks(t, end.Copy(), 0, 9, 5, 3)
	picks(t, end, 0, 9, 5, 3)
	picks(t, end, 0, 9, 3, 4)
	if tp.Used() != 4 || c.Used() != 3 || end.Used() != 4 {
		t.Errorf("P20.1: used %d, %d, %d", tp.Used(), c.Used(), end.Used())
	}
}

// P20.2: whatever is chosen lies between.
func TestBetween(t *testing.T) {
	ends := []int{least, least + 1, -65536, -257, -1, 0, 1, 2, 254, 255, 256, 257, 65535, 65536, most - 1, most}
	for _, lo := range ends {
		for _, hi := range ends {
			tp := New([]byte{0, 1, 2, 127, 128, 254, 255})
			for range 8 {
				if n := tp.Pick(lo, hi); hi > lo && (n < lo || n > hi) || hi <= lo && n != hi {
					t.Errorf("P20.2: Pick(%d, %d): %d", lo, hi, n)
				}
			}
		}
	}
}

// DOC.md's rules 3 and 6: the bytes handed in are neither changed nor kept; tapes don't touch one another.
func TestNothingIsShared(t *testing.T) {
	b := append(make([]byte, 0, 8), 1, 2, 3)
	tp, other := New(b), New(b[:2])
	picks(t, tp, 0, 9, 1, 1)
	if !slices.Equal(b[:8], []byte{1, 2, 3, 0, 0, 0, 0, 0}) {
		t.Errorf("bytes were changed: %v", b[:8])
	}
	c := tp.Copy()
	for at := range b[:8] {
		b[:8][at] = 9
	}
	for _, each := range []*Tape{tp, c} {
		picks(t, each, 0, 9, 2, 2)
		picks(t, each, 0, 9, 3, 3)
		picks(t, each, 0, 9, 1, 4)
	}
	picks(t, other, 0, 9, 1, 1)
	picks(t, other, 0, 9, 2, 2)
	picks(t, other, 0, 9, 1, 3)
}
