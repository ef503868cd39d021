package tests

import (
	"math"
	"math/rand/v2"
	"slices"
	"testing"

	"loop.example/g03109/impl"
)

var someSizes = []int{0, 1, 2, 3, 5, 8, 40}

func add(t *testing.T, a impl.Matrix, b impl.Matrix) impl.Matrix {
	t.Helper()
	m, ok := impl.AddMatrices(a, b)
	if !ok {
		t.Fatal("no sum", a, b)
	}
	return m
}

func mul(t *testing.T, a impl.Matrix, b impl.Matrix) impl.Matrix {
	t.Helper()
	m, ok := impl.MulMatrices(a, b)
	if !ok {
		t.Fatal("no product", a, b)
	}
	return m
}

// eachShape calls f for each prime and for sizes drawn from someSizes.
func eachShape(seed uint64, f func(r *rand.Rand, p int, sizes [4]int)) {
	r := newRandom(seed)
	for _, p := range somePrimes {
		for range 40 {
			var sizes [4]int
			for i := range sizes {
				sizes[i] = someSizes[r.IntN(len(someSizes))]
			}
			f(r, p, sizes)
		}
	}
}

func TestMatrixOk(t *testing.T) {
	for _, m := range invalidMatrices() {
		if impl.MatrixOk(m) || validMatrix(m) {
			t.Error(m)
		}
	}
	for _, p := range somePrimes {
		for _, rows := range someSizes {
			for _, cols := range someSizes {
				for _, x := range []int{0, 1, p - 1} {
					if m := constant(p, rows, cols, x); !impl.MatrixOk(m) {
						t.Error(m)
					}
				}
				if rows*cols > 0 {
					tooLarge := constant(p, rows, cols, 0)
					tooLarge.Data[rows*cols-1] = p
					if impl.MatrixOk(tooLarge) {
						t.Error(tooLarge)
					}
				}
			}
		}
	}
	if !impl.MatrixOk(impl.Matrix{P: 2}) || !impl.MatrixOk(impl.Matrix{P: 10007, Cols: 40, Data: []int{}}) {
		t.Error("matrices without rows are valid")
	}
}

func TestZeroAndUnitMatrix(t *testing.T) {
	for _, p := range somePrimes {
		for _, rows := range someSizes {
			for _, cols := range someSizes {
				mustMatrix(t, "zeros", impl.ZeroMatrix(p, rows, cols), true, constant(p, rows, cols, 0))
			}
			want := constant(p, rows, rows, 0)
			for i := range rows {
				want.Data[i*rows+i] = 1
			}
			mustMatrix(t, "unit", impl.UnitMatrix(p, rows), true, want)
		}
	}
}

func TestZeroAndUnitMatrixInvalid(t *testing.T) {
	sizes := append(slices.Clone(extremes), 2, 40, 41, -41)
	primes := append(slices.Clone(extremes), 2, 4, 7, 9, 10007)
	for _, p := range primes {
		for _, rows := range sizes {
			for _, cols := range sizes {
				good := slices.Contains(somePrimes, p) && rows >= 0 && rows <= 40 && cols >= 0 && cols <= 40
				zero := impl.ZeroMatrix(p, rows, cols)
				if !good && (zero.Data != nil || !sameMatrix(zero, impl.Matrix{})) || good && !impl.MatrixOk(zero) {
					t.Error(p, rows, cols, zero)
				}
			}
			good := slices.Contains(somePrimes, p) && rows >= 0 && rows <= 40
			unit := impl.UnitMatrix(p, rows)
			if !good && (unit.Data != nil || !sameMatrix(unit, impl.Matrix{})) || good && !impl.MatrixOk(unit) {
				t.Error(p, rows, unit)
			}
		}
	}
}

func TestExamplesOfArithmetic(t *testing.T) {
	a, b := matrixOf(7, 2, 2, 1, 2, 3, 4), matrixOf(7, 2, 2, 0, 1, 6, 5)
	sum, ok := impl.AddMatrices(a, b)
	mustMatrix(t, "sum", sum, ok, matrixOf(7, 2, 2, 1, 3, 2, 2))
	m, ok := impl.MulMatrices(a, b)
	mustMatrix(t, "product", m, ok, matrixOf(7, 2, 2, 5, 4, 3, 2))
	c, ok := impl.CommutatorOf(a, b)
	mustMatrix(t, "commutator", c, ok, matrixOf(7, 2, 2, 2, 0, 3, 5))
	mustMatrix(t, "multiple", impl.ScaleMatrix(a, -3), true, matrixOf(7, 2, 2, 4, 1, 5, 2))
	wide := matrixOf(7, 2, 3, 1, 2, 3, 4, 5, 6)
	mustMatrix(t, "transposed", impl.TransposeMatrix(wide), true, matrixOf(7, 3, 2, 1, 4, 2, 5, 3, 6))
	m, ok = impl.MulMatrices(a, wide)
	mustMatrix(t, "wide product", m, ok, matrixOf(7, 2, 3, 2, 5, 1, 5, 5, 5))
	if trace, ok := impl.TraceOf(matrixOf(7, 2, 2, 4, 1, 1, 5)); trace != 2 || !ok {
		t.Error(trace, ok)
	}
	if trace, ok := impl.TraceOf(matrixOf(7, 0, 0)); trace != 0 || !ok {
		t.Error(trace, ok)
	}
}

func TestLawsOfSums(t *testing.T) {
	eachShape(2, func(r *rand.Rand, p int, s [4]int) {
		a, b, c := randomMatrix(r, p, s[0], s[1]), randomMatrix(r, p, s[0], s[1]), randomMatrix(r, p, s[0], s[1])
		zero := impl.ZeroMatrix(p, s[0], s[1])
		mustMatrix(t, "a + b = b + a", add(t, a, b), true, add(t, b, a))
		mustMatrix(t, "(a + b) + c", add(t, add(t, a, b), c), true, add(t, a, add(t, b, c)))
		mustMatrix(t, "a + 0", add(t, a, zero), true, a)
		mustMatrix(t, "a - a", add(t, a, impl.ScaleMatrix(a, -1)), true, zero)
		mustMatrix(t, "0 a", impl.ScaleMatrix(a, 0), true, zero)
		mustMatrix(t, "2 a", impl.ScaleMatrix(a, 2), true, add(t, a, a))
		for i, x := range add(t, a, b).Data {
			if x != (a.Data[i]+b.Data[i])%p {
				t.Error(a, b)
			}
		}
		for _, k := range append(slices.Clone(extremes), p, p+1, -p) {
			scaled := impl.ScaleMatrix(a, k)
			for i, x := range scaled.Data {
				if x != impl.Residue(k, p)*a.Data[i]%p {
					t.Error(k, a, scaled)
				}
			}
			mustMatrix(t, "shape", impl.ScaleMatrix(scaled, 0), true, zero)
		}
	})
}

func TestLawsOfProducts(t *testing.T) {
	eachShape(3, func(r *rand.Rand, p int, s [4]int) {
		a, b, c := randomMatrix(r, p, s[0], s[1]), randomMatrix(r, p, s[1], s[2]), randomMatrix(r, p, s[2], s[3])
		d := randomMatrix(r, p, s[1], s[2])
		mustMatrix(t, "a b", mul(t, a, b), true, multiply(a, b))
		mustMatrix(t, "(a b) c", mul(t, mul(t, a, b), c), true, mul(t, a, mul(t, b, c)))
		mustMatrix(t, "a (b + d)", mul(t, a, add(t, b, d)), true, add(t, mul(t, a, b), mul(t, a, d)))
		mustMatrix(t, "(b + d) c", mul(t, add(t, b, d), c), true, add(t, mul(t, b, c), mul(t, d, c)))
		mustMatrix(t, "1 a", mul(t, impl.UnitMatrix(p, s[0]), a), true, a)
		mustMatrix(t, "a 1", mul(t, a, impl.UnitMatrix(p, s[1])), true, a)
		k := r.IntN(p)
		mustMatrix(t, "k (a b)", impl.ScaleMatrix(mul(t, a, b), k), true, mul(t, impl.ScaleMatrix(a, k), b))
		turned := impl.TransposeMatrix(mul(t, a, b))
		mustMatrix(t, "transposed", turned, true, mul(t, impl.TransposeMatrix(b), impl.TransposeMatrix(a)))
		mustMatrix(t, "transposed twice", impl.TransposeMatrix(impl.TransposeMatrix(a)), true, a)
	})
	full := constant(10007, 40, 40, 10006)
	mustMatrix(t, "greatest numbers", mul(t, full, full), true, constant(10007, 40, 40, 40))
	mustMatrix(t, "no numbers", mul(t, matrixOf(5, 2, 0), matrixOf(5, 0, 3)), true, constant(5, 2, 3, 0))
}

func TestTransposeMatrix(t *testing.T) {
	eachShape(4, func(r *rand.Rand, p int, s [4]int) {
		a := randomMatrix(r, p, s[0], s[1])
		m := impl.TransposeMatrix(a)
		if m.P != p || m.Rows != s[1] || m.Cols != s[0] || len(m.Data) != s[0]*s[1] {
			t.Fatal(m)
		}
		for i := range a.Rows {
			for j := range a.Cols {
				if at(a, i, j) != at(m, j, i) {
					t.Error(a, m)
				}
			}
		}
	})
}

func TestCommutatorsAndTraces(t *testing.T) {
	eachShape(5, func(r *rand.Rand, p int, s [4]int) {
		n := s[0]
		a, b := randomMatrix(r, p, n, n), randomMatrix(r, p, n, n)
		c, ok := impl.CommutatorOf(a, b)
		mustMatrix(t, "ab - ba", c, ok, add(t, mul(t, a, b), impl.ScaleMatrix(mul(t, b, a), -1)))
		c, ok = impl.CommutatorOf(a, a)
		mustMatrix(t, "aa - aa", c, ok, impl.ZeroMatrix(p, n, n))
		sum := 0
		for i := range n {
			sum += at(a, i, i)
		}
		if trace, ok := impl.TraceOf(a); trace != sum%p || !ok {
			t.Error(a, trace, ok)
		}
		left, _ := impl.TraceOf(multiply(a, b))
		right, _ := impl.TraceOf(multiply(b, a))
		if left != right {
			t.Error(a, b, left, right)
		}
	})
}

func TestMatricesThatDoNotFit(t *testing.T) {
	a := matrixOf(5, 2, 3, 1, 2, 3, 4, 0, 1)
	others := []impl.Matrix{
		matrixOf(7, 2, 3, 1, 2, 3, 4, 0, 1), matrixOf(5, 3, 2, 1, 2, 3, 4, 0, 1),
		matrixOf(5, 2, 2, 1, 2, 3, 4), matrixOf(5, 1, 3, 1, 2, 3), matrixOf(5, 6, 1, 1, 2, 3, 4, 0, 1), matrixOf(5, 0, 0),
	}
	for _, b := range others {
		for _, m := range [][2]impl.Matrix{{a, b}, {b, a}} {
			if sum, ok := impl.AddMatrices(m[0], m[1]); ok || !sameMatrix(sum, impl.Matrix{}) || sum.Data != nil {
				t.Error(m, sum, ok)
			}
			if c, ok := impl.CommutatorOf(m[0], m[1]); ok || !sameMatrix(c, impl.Matrix{}) || c.Data != nil {
				t.Error(m, c, ok)
			}
			fits := m[0].P == m[1].P && m[0].Cols == m[1].Rows
			if c, ok := impl.MulMatrices(m[0], m[1]); ok != fits || !ok && (c.Data != nil || !sameMatrix(c, impl.Matrix{})) {
				t.Error(m, c, ok)
			}
		}
		if trace, ok := impl.TraceOf(b); ok != (b.Rows == b.Cols) || !ok && trace != 0 {
			t.Error(b, trace, ok)
		}
	}
	for _, m := range [][2]impl.Matrix{
		{matrixOf(5, 1, 1, 1), matrixOf(7, 1, 1, 1)}, {matrixOf(5, 0, 0), matrixOf(7, 0, 0)},
		{matrixOf(5, 1, 1, 1), impl.UnitMatrix(5, 2)}, {a, a},
	} {
		if c, ok := impl.CommutatorOf(m[0], m[1]); ok || !sameMatrix(c, impl.Matrix{}) {
			t.Error(m, c, ok)
		}
	}
	if _, ok := impl.MulMatrices(matrixOf(5, 1, 1, 1), matrixOf(7, 1, 1, 1)); ok {
		t.Error("P differs")
	}
	if sum, ok := impl.AddMatrices(matrixOf(5, 0, 3), matrixOf(5, 0, 2)); ok || sum.P != 0 {
		t.Error("sizes without numbers differ, too")
	}
}

func TestScaleByLeastAndGreatest(t *testing.T) {
	a := matrixOf(10007, 1, 2, 10006, 1)
	for _, k := range []int{math.MinInt, math.MaxInt} {
		r := impl.Residue(k, 10007)
		mustMatrix(t, "multiple", impl.ScaleMatrix(a, k), true, matrixOf(10007, 1, 2, 10007-r, r))
	}
}
