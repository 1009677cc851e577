package flat_test

import (
	"math"
	"math/big"
	"math/rand"
	"testing"

	"sheetmetal/api"
	"sheetmetal/flat"
)

// The limits of a valid rational.
const (
	maxNum = 1 << 24
	maxDen = 1 << 12
)

// rat returns the rational num/den.
func rat(num, den int) api.Rat { return api.Rat{Num: num, Den: den} }

// wildRats are rationals that are not valid.
var wildRats = []api.Rat{
	rat(1, 0), rat(0, 0), rat(1, -1), rat(1, -2), rat(0, -maxDen), rat(1, maxDen+1), rat(0, maxDen+1), rat(maxNum+1, 1), rat(-maxNum-1, 1),
	rat(maxNum+1, maxDen), rat(2*maxNum, 2), rat(1, math.MaxInt), rat(1, math.MinInt), rat(math.MaxInt, 1), rat(math.MinInt, 1),
	rat(math.MinInt, math.MinInt), rat(1<<32, 1), rat(1, 1<<32+1), rat(math.MinInt, -1), rat(1<<63-1, 1<<62),
}

// value returns r as a rational of the library.
func value(r api.Rat) *big.Rat { return big.NewRat(int64(r.Num), int64(r.Den)) }

// reducedRat returns a rational of the library with its reduced numbers.
func reducedRat(r *big.Rat) api.Rat { return rat(int(r.Num().Int64()), int(r.Denom().Int64())) }

// isValid reports whether r is a valid rational.
func isValid(r api.Rat) bool {
	return r.Den >= 1 && r.Den <= maxDen && r.Num >= -maxNum && r.Num <= maxNum
}

// randomRat returns a valid rational; often its numbers are small, or near to the limits.
func randomRat(r *rand.Rand) api.Rat {
	switch r.Intn(3) {
	case 0:
		return rat(r.Intn(25)-12, 1+r.Intn(12))
	case 1:
		return rat((maxNum-r.Intn(3))*(1-2*r.Intn(2)), 1+r.Intn(3))
	}
	return rat(r.Intn(2*maxNum+1)-maxNum, 1+r.Intn(maxDen))
}

func TestReduce(t *testing.T) {
	for _, x := range [][2]api.Rat{
		{rat(6, 4), rat(3, 2)},
		{rat(-6, 4), rat(-3, 2)},
		{rat(3, 2), rat(3, 2)},
		{rat(4, 6), rat(2, 3)},
		{rat(12, 4), rat(3, 1)},
		{rat(0, 1), rat(0, 1)},
		{rat(0, 7), rat(0, 1)},
		{rat(0, maxDen), rat(0, 1)},
		{rat(7, 7), rat(1, 1)},
		{rat(-7, 7), rat(-1, 1)},
		{rat(maxNum, maxDen), rat(maxDen, 1)},
		{rat(-maxNum, maxDen), rat(-maxDen, 1)},
		{rat(maxNum, 1), rat(maxNum, 1)},
		{rat(-maxNum, 1), rat(-maxNum, 1)},
		{rat(1, maxDen), rat(1, maxDen)},
	} {
		if r, e := flat.Reduce(x[0]); r != x[1] || e != api.OK {
			t.Error(x, r, e)
		}
	}
	for _, x := range wildRats {
		if r, e := flat.Reduce(x); r != (api.Rat{}) || e != api.ErrArg {
			t.Error(x, r, e)
		}
	}
}

func TestAdd(t *testing.T) {
	for _, x := range [][3]api.Rat{
		{rat(1, 6), rat(1, 3), rat(1, 2)},
		{rat(1, 6), rat(-1, 6), rat(0, 1)},
		{rat(7, 2), rat(1, 2), rat(4, 1)},
		{rat(0, 5), rat(0, 3), rat(0, 1)},
		{rat(1, maxDen), rat(1, maxDen), rat(1, maxDen/2)},
		{rat(1, 64), rat(1, 63), rat(127, 4032)},
		{rat(1, maxDen), rat(1, maxDen/2), rat(3, maxDen)},
		{rat(maxNum, 1), rat(0, 1), rat(maxNum, 1)},
		{rat(maxNum, 1), rat(-maxNum, 1), rat(0, 1)},
		{rat(maxNum-1, 1), rat(1, 1), rat(maxNum, 1)},
		{rat(1-maxNum, 1), rat(-1, 1), rat(-maxNum, 1)},
		{rat(maxNum, 2), rat(maxNum, 2), rat(maxNum, 1)},
		// The numbers before the reduction are too large for a valid rational, the reduced ones are not.
		{rat(maxNum, maxDen), rat(maxNum, maxDen), rat(2*maxDen, 1)},
		{rat(maxDen-1, maxDen), rat(1, maxDen), rat(1, 1)},
		{rat(maxNum-1, 2), rat(1-maxNum, 4), rat(maxNum-1, 4)},
	} {
		if r, e := flat.Add(x[0], x[1]); r != x[2] || e != api.OK {
			t.Error(x, r, e)
		}
		if r, e := flat.Add(x[1], x[0]); r != x[2] || e != api.OK {
			t.Error(x, r, e)
		}
	}
}

func TestAddErrors(t *testing.T) {
	for _, x := range [][2]api.Rat{
		{rat(1, 4095), rat(1, 4096)},
		{rat(1, maxDen), rat(1, 3)},
		{rat(1, 65), rat(1, 64)},
		{rat(maxNum, 1), rat(1, 1)},
		{rat(-maxNum, 1), rat(-1, 1)},
		{rat(maxNum, 1), rat(1, 2)},
		{rat(maxNum, 1), rat(-1, 2)},
	} {
		if r, e := flat.Add(x[0], x[1]); r != (api.Rat{}) || e != api.ErrLarge {
			t.Error(x, r, e)
		}
	}
	for _, x := range wildRats {
		for _, y := range append([]api.Rat{rat(1, 1), rat(maxNum, maxDen-1)}, wildRats...) {
			if r, e := flat.Add(x, y); r != (api.Rat{}) || e != api.ErrArg {
				t.Error(x, y, r, e)
			}
			if r, e := flat.Add(y, x); r != (api.Rat{}) || e != api.ErrArg {
				t.Error(y, x, r, e)
			}
		}
	}
}

func TestCompare(t *testing.T) {
	for _, x := range []struct {
		a, b api.Rat
		want int
	}{
		{rat(1, 3), rat(2, 6), 0},
		{rat(0, 3), rat(0, 5), 0},
		{rat(1, 3), rat(1, 2), -1},
		{rat(-1, 3), rat(-1, 2), 1},
		{rat(-1, 3), rat(1, 3), -1},
		{rat(maxNum, maxDen), rat(maxNum, maxDen-1), -1},
		{rat(maxNum, maxDen), rat(maxNum-1, maxDen), 1},
		{rat(-maxNum, 1), rat(maxNum, 1), -1},
	} {
		if c, e := flat.Compare(x.a, x.b); c != x.want || e != api.OK {
			t.Error(x, c, e)
		}
		if c, e := flat.Compare(x.b, x.a); c != -x.want || e != api.OK {
			t.Error(x, c, e)
		}
	}
	for _, x := range wildRats {
		for _, y := range append([]api.Rat{rat(1, 1)}, wildRats...) {
			if c, e := flat.Compare(x, y); c != 0 || e != api.ErrArg {
				t.Error(x, y, c, e)
			}
			if c, e := flat.Compare(y, x); c != 0 || e != api.ErrArg {
				t.Error(y, x, c, e)
			}
		}
	}
}

func TestTicks(t *testing.T) {
	for _, x := range []struct {
		r    api.Rat
		want int
	}{
		{rat(7, 2), 2520}, {rat(-7, 2), -2520}, {rat(0, 7), 0}, {rat(1, 720), 1}, {rat(1, 1), 720}, {rat(7, 7), 720}, {rat(2, 1440), 1},
		{rat(maxNum, 1), 720 * maxNum}, {rat(-maxNum, 1), -720 * maxNum}, {rat(maxDen, maxDen), 720}, {rat(1, 48), 15},
	} {
		if n, e := flat.Ticks(x.r); n != x.want || e != api.OK {
			t.Error(x, n, e)
		}
	}
	for _, x := range []api.Rat{rat(1, 7), rat(-1, 7), rat(1, 1440), rat(721, 1440), rat(1, 721), rat(1, maxDen), rat(maxNum, 7), rat(-maxNum, maxDen-1)} {
		if n, e := flat.Ticks(x); n != 0 || e != api.ErrNone {
			t.Error(x, n, e)
		}
	}
	for _, x := range wildRats {
		if n, e := flat.Ticks(x); n != 0 || e != api.ErrArg {
			t.Error(x, n, e)
		}
	}
}

func TestRandomRationals(t *testing.T) {
	r := rand.New(rand.NewSource(1))
	for range 20000 {
		a, b := randomRat(r), randomRat(r)
		if got, e := flat.Reduce(a); got != reducedRat(value(a)) || e != api.OK {
			t.Fatal(a, got, e)
		}
		if c, e := flat.Compare(a, b); c != value(a).Cmp(value(b)) || e != api.OK {
			t.Fatal(a, b, c, e)
		}
		sum := reducedRat(new(big.Rat).Add(value(a), value(b)))
		wantError := api.OK
		if !isValid(sum) {
			sum, wantError = api.Rat{}, api.ErrLarge
		}
		if got, e := flat.Add(a, b); got != sum || e != wantError {
			t.Fatal(a, b, got, e)
		}
		ticks := reducedRat(new(big.Rat).Mul(value(a), big.NewRat(api.Scale, 1)))
		wantTicks, wantError := ticks.Num, api.OK
		if ticks.Den != 1 {
			wantTicks, wantError = 0, api.ErrNone
		}
		if n, e := flat.Ticks(a); n != wantTicks || e != wantError {
			t.Fatal(a, n, e)
		}
	}
}
