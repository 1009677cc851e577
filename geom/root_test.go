package geom_test

import (
	"math"
	"math/big"
	"math/rand"
	"testing"

	"sheetmetal/api"
	"sheetmetal/geom"
)

// root returns A + B times the square root of 3.
func root(a, b int) api.Root { return api.Root{A: a, B: b} }

// value returns r with 300 bits, which is more than any sign in these tests needs.
func value(r api.Root) *big.Float {
	float := func(n int) *big.Float { return new(big.Float).SetPrec(300).SetInt64(int64(n)) }
	irrational := new(big.Float).SetPrec(300).Sqrt(float(3))
	return irrational.Mul(irrational, float(r.B)).Add(irrational, float(r.A))
}

// wild are numbers that are far from every limit.
var wild = []int{math.MaxInt, math.MinInt, math.MinInt + 1, 1 << 32, -1 << 32, 1 << 62}

func TestSignRoot(t *testing.T) {
	for _, x := range []struct{ a, b, want int }{
		{0, 0, 0}, {1, 0, 1}, {-1, 0, -1}, {0, 1, 1}, {0, -1, -1}, {3, 5, 1}, {-3, -5, -1},
		{7, -4, 1}, {-7, 4, -1}, {5, -3, -1}, {-5, 3, 1}, {2, -1, 1}, {1, -1, -1},
		{api.MaxRoot, -api.MaxRoot, -1}, {-api.MaxRoot, api.MaxRoot, 1},
		{api.MaxRoot, api.MaxRoot, 1}, {-api.MaxRoot, -api.MaxRoot, -1},
	} {
		if s, e := geom.SignRoot(root(x.a, x.b)); s != x.want || e != api.OK {
			t.Errorf("%d + %d*sqrt(3): %d, %v", x.a, x.b, s, e)
		}
	}
}

// TestSignRootNearZero goes through the solutions of A*A - 3*B*B = 1 and = -2: no fractions are nearer to the square root of 3.
func TestSignRootNearZero(t *testing.T) {
	for _, x := range []struct{ a, b, want int }{{2, 1, 1}, {1, 1, -1}} {
		for a, b := x.a, x.b; a <= api.MaxRoot; a, b = 2*a+3*b, a+2*b {
			if s, e := geom.SignRoot(root(a, -b)); s != x.want || e != api.OK {
				t.Errorf("%d - %d*sqrt(3): %d, %v", a, b, s, e)
			}
			if s, e := geom.SignRoot(root(-a, b)); s != -x.want || e != api.OK {
				t.Errorf("-%d + %d*sqrt(3): %d, %v", a, b, s, e)
			}
		}
	}
}

func TestSignRootLimits(t *testing.T) {
	for _, n := range append([]int{api.MaxRoot + 1, -api.MaxRoot - 1}, wild...) {
		for _, r := range []api.Root{root(n, 0), root(0, n), root(n, n), root(n, -n)} {
			if s, e := geom.SignRoot(r); s != 0 || e != api.ErrLarge {
				t.Error(r, s, e)
			}
		}
	}
}

func TestCompareRoot(t *testing.T) {
	const m = api.MaxRoot
	for _, x := range []struct {
		a, b api.Root
		want int
	}{
		{root(0, 4), root(7, 0), -1}, {root(7, 0), root(0, 4), 1}, {root(5, -2), root(5, -2), 0},
		{root(0, 1), root(1, 0), 1}, {root(0, 1), root(2, 0), -1}, {root(10, 1), root(3, 5), 1},
		{root(m, -m), root(-m, m), -1}, {root(-m, m), root(m, -m), 1}, {root(m, m), root(-m, -m), 1}, {root(m, 0), root(-m, 0), 1},
	} {
		if s, e := geom.CompareRoot(x.a, x.b); s != x.want || e != api.OK {
			t.Error(x.a, x.b, s, e)
		}
	}
	r := rand.New(rand.NewSource(1))
	for range 2000 {
		n := 1 << (1 + r.Intn(28))
		number := func() int { return r.Intn(2*n+1) - n }
		a, b := root(number(), number()), root(number(), number())
		if s, e := geom.CompareRoot(a, b); s != value(a).Cmp(value(b)) || e != api.OK {
			t.Error(a, b, s, e)
		}
	}
}

func TestCompareRootLimits(t *testing.T) {
	for _, n := range append([]int{api.MaxRoot + 1, -api.MaxRoot - 1}, wild...) {
		for _, r := range []api.Root{root(n, 0), root(0, n)} {
			if s, e := geom.CompareRoot(r, root(1, 0)); s != 0 || e != api.ErrLarge {
				t.Error(r, s, e)
			}
			if s, e := geom.CompareRoot(root(1, 0), r); s != 0 || e != api.ErrLarge {
				t.Error(r, s, e)
			}
			if s, e := geom.CompareRoot(r, r); s != 0 || e != api.ErrLarge {
				t.Error(r, s, e)
			}
		}
	}
}

func TestMultiply(t *testing.T) {
	const m = api.MaxFactor
	for _, x := range []struct{ a, b, want api.Root }{
		{root(1, 2), root(3, -1), root(-3, 5)}, {root(0, 1), root(0, 1), root(3, 0)}, {root(2, 0), root(5, 7), root(10, 14)},
		{root(7, -4), root(7, 4), root(1, 0)}, {root(0, 0), root(9, 9), root(0, 0)},
		{root(m, m), root(m, m), root(4*m*m, 2*m*m)}, {root(-m, m), root(m, m), root(2*m*m, 0)},
	} {
		if p, e := geom.Multiply(x.a, x.b); p != x.want || e != api.OK {
			t.Error(x.a, x.b, p, e)
		}
		if p, e := geom.Multiply(x.b, x.a); p != x.want || e != api.OK {
			t.Error(x.b, x.a, p, e)
		}
	}
	for _, n := range append([]int{m + 1, -m - 1}, wild...) {
		for _, r := range []api.Root{root(n, 0), root(0, n)} {
			if p, e := geom.Multiply(r, root(1, 1)); p != (api.Root{}) || e != api.ErrLarge {
				t.Error(r, p, e)
			}
			if p, e := geom.Multiply(root(1, 1), r); p != (api.Root{}) || e != api.ErrLarge {
				t.Error(r, p, e)
			}
		}
	}
}
