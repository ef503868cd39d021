package tests

import (
	"math"
	"math/rand/v2"
	"slices"
	"testing"

	"loop.example/g03109/impl"
)

// eachSmall calls f for matrices so small that all vectors can be listed, some of low rank.
func eachSmall(seed uint64, f func(a impl.Matrix)) {
	r := newRandom(seed)
	for rows := range 5 {
		for cols := range 5 {
			for range 12 {
				f(randomMatrix(r, 2, rows, cols))
				f(lowRank(r, 2, rows, cols, r.IntN(3)))
				f(lowRank(r, 3, rows, cols, r.IntN(4)))
			}
			if cols < 4 {
				f(randomMatrix(r, 5, rows, cols))
				f(lowRank(r, 5, rows, cols, 1))
			}
		}
	}
}

// eachLarge calls f for matrices of all ranks up to the greatest sizes.
func eachLarge(seed uint64, f func(r *rand.Rand, a impl.Matrix, rank int)) {
	r := newRandom(seed)
	for _, p := range []int{2, 3, 101, 10007} {
		for _, size := range [][2]int{{40, 40}, {40, 1}, {1, 40}, {17, 40}, {40, 23}, {0, 40}, {40, 0}, {12, 12}} {
			for range 6 {
				rank := r.IntN(min(size[0], size[1]) + 1)
				f(r, ofRank(r, p, size[0], size[1], rank), rank)
			}
		}
	}
}

// ofRank has just this rank: unit rows, scrambled by products with triangular matrices and exchanges.
func ofRank(r *rand.Rand, p int, rows int, cols int, rank int) impl.Matrix {
	m := constant(p, rows, cols, 0)
	for i := range rank {
		m.Data[i*cols+i] = 1
	}
	return multiply(multiply(invertible(r, p, rows), m), invertible(r, p, cols))
}

func invertible(r *rand.Rand, p int, n int) impl.Matrix {
	lower, upper := constant(p, n, n, 0), constant(p, n, n, 0)
	order := r.Perm(n)
	for i := range n {
		for j := range i {
			lower.Data[i*n+j] = r.IntN(p)
			upper.Data[j*n+i] = r.IntN(p)
		}
		lower.Data[i*n+i] = 1 + r.IntN(p-1)
		upper.Data[i*n+i] = 1
	}
	exchanged := constant(p, n, n, 0)
	for i, j := range order {
		copy(row(exchanged, i), row(upper, j))
	}
	return multiply(lower, exchanged)
}

func zeroVector(v []int) bool {
	return !slices.ContainsFunc(v, func(x int) bool { return x != 0 })
}

func TestExamplesOfReduction(t *testing.T) {
	for _, c := range []struct {
		a, want impl.Matrix
		pivots  []int
	}{
		{matrixOf(7, 2, 2, 0, 3, 2, 4), matrixOf(7, 2, 2, 1, 0, 0, 1), []int{0, 1}},
		{matrixOf(5, 3, 4, 0, 2, 4, 1, 0, 1, 2, 0, 0, 3, 1, 2), matrixOf(5, 3, 4, 0, 1, 2, 0, 0, 0, 0, 1, 0, 0, 0, 0), []int{1, 3}},
		{matrixOf(2, 2, 3, 1, 1, 0, 1, 1, 1), matrixOf(2, 2, 3, 1, 1, 0, 0, 0, 1), []int{0, 2}},
		{matrixOf(5, 2, 2), impl.Matrix{}, nil},
		{matrixOf(5, 0, 3), matrixOf(5, 0, 3), nil},
		{matrixOf(5, 3, 0), matrixOf(5, 3, 0), nil},
		{matrixOf(5, 2, 1, 0, 0), matrixOf(5, 2, 1, 0, 0), nil},
		{matrixOf(10007, 1, 3, 0, 10006, 1), matrixOf(10007, 1, 3, 0, 1, 10006), []int{1}},
	} {
		m, pivots := impl.ReduceMatrix(c.a)
		mustMatrix(t, "reduced", m, slices.Equal(pivots, c.pivots), c.want)
	}
}

// checkReduction says that m is reduced with these pivots, and has the rows of zeros last.
func checkReduction(t *testing.T, a impl.Matrix) {
	t.Helper()
	m, pivots := impl.ReduceMatrix(a)
	rank := len(pivots)
	if m.P != a.P || m.Rows != a.Rows || m.Cols != a.Cols || len(m.Data) != len(a.Data) || rank > m.Rows {
		t.Fatal(a, m, pivots)
	}
	space := matrixOf(m.P, rank, m.Cols, m.Data[:rank*m.Cols]...)
	if !zeroVector(m.Data[rank*m.Cols:]) || !reducedSpace(space) {
		t.Error(a, m, pivots)
	}
	for i, c := range pivots {
		if slices.IndexFunc(row(m, i), func(x int) bool { return x != 0 }) != c {
			t.Error(a, m, pivots)
		}
	}
	if impl.RankOf(a) != rank {
		t.Error(a, rank, impl.RankOf(a))
	}
}

func TestReductionsOfSmall(t *testing.T) {
	eachSmall(6, func(a impl.Matrix) {
		checkReduction(t, a)
		m, pivots := impl.ReduceMatrix(a)
		before, after := sumsOfRows(a), sumsOfRows(m)
		size := 1
		for range pivots {
			size *= a.P
		}
		if len(before) != size || len(after) != size {
			t.Error(a, m)
		}
		for v := range after {
			if !before[v] {
				t.Error(a, m)
			}
		}
	})
}

func TestReductionsOfLarge(t *testing.T) {
	eachLarge(7, func(r *rand.Rand, a impl.Matrix, rank int) {
		checkReduction(t, a)
		m, _ := impl.ReduceMatrix(a)
		other, _ := impl.ReduceMatrix(multiply(invertible(r, a.P, a.Rows), a))
		mustMatrix(t, "other rows of one space", m, impl.RankOf(a) == rank, other)
		if impl.RankOf(impl.TransposeMatrix(a)) != rank {
			t.Error("rank of columns", a)
		}
	})
}

func TestDeterminantOf(t *testing.T) {
	for _, c := range []struct {
		a    impl.Matrix
		want int
	}{
		{matrixOf(5, 0, 0), 1}, {matrixOf(2, 0, 0), 1}, {matrixOf(7, 1, 1, 0), 0}, {matrixOf(7, 1, 1, 6), 6},
		{matrixOf(7, 2, 2, 1, 2, 3, 4), 5}, {matrixOf(7, 2, 2, 0, 1, 1, 0), 6}, {matrixOf(2, 2, 2, 0, 1, 1, 0), 1},
		{matrixOf(7, 2, 2, 1, 2, 2, 4), 0}, {matrixOf(7, 3, 3, 0, 2, 0, 0, 0, 3, 4, 0, 0), 3}, {constant(10007, 40, 40, 10006), 0},
	} {
		if d, ok := impl.DeterminantOf(c.a); d != c.want || !ok {
			t.Error(c.a, d, ok)
		}
	}
	for _, a := range []impl.Matrix{matrixOf(5, 2, 3, 1, 0, 0, 0, 1, 0), matrixOf(5, 0, 1), matrixOf(5, 1, 0)} {
		if d, ok := impl.DeterminantOf(a); d != 0 || ok {
			t.Error(a, d, ok)
		}
	}
}

// expansion is the determinant along the first row.
func expansion(a impl.Matrix) int {
	if a.Rows == 0 {
		return 1
	}
	sum, sign := 0, 1
	for j := range a.Cols {
		minor := matrixOf(a.P, a.Rows-1, a.Cols-1)
		for i := 1; i < a.Rows; i++ {
			minor.Data = append(minor.Data, row(a, i)[:j]...)
			minor.Data = append(minor.Data, row(a, i)[j+1:]...)
		}
		sum += sign * at(a, 0, j) * expansion(minor)
		sign = -sign
	}
	return impl.Residue(sum, a.P)
}

func TestDeterminantsAndInverses(t *testing.T) {
	r := newRandom(8)
	for _, p := range somePrimes {
		for n := range 6 {
			for range 12 {
				a, b := randomMatrix(r, p, n, n), lowRank(r, p, n, n, max(0, n-r.IntN(2)))
				left, _ := impl.DeterminantOf(a)
				right, _ := impl.DeterminantOf(b)
				both, _ := impl.DeterminantOf(multiply(a, b))
				if left != expansion(a) || right != expansion(b) || both != left*right%p {
					t.Error(a, b, left, right, both)
				}
				checkInverse(t, a, left != 0)
				checkInverse(t, b, right != 0)
			}
		}
	}
}

func checkInverse(t *testing.T, a impl.Matrix, there bool) {
	t.Helper()
	m, ok := impl.InverseMatrix(a)
	if ok != there || !ok && (m.Data != nil || !sameMatrix(m, impl.Matrix{})) {
		t.Error(a, m, ok)
	}
	if ok {
		mustMatrix(t, "a times inverse", multiply(a, m), impl.MatrixOk(m), impl.UnitMatrix(a.P, a.Rows))
		mustMatrix(t, "inverse times a", multiply(m, a), true, impl.UnitMatrix(a.P, a.Rows))
	}
}

func TestInversesOfLarge(t *testing.T) {
	r := newRandom(9)
	for _, p := range somePrimes {
		for _, n := range []int{0, 1, 9, 39, 40} {
			checkInverse(t, invertible(r, p, n), true)
			if n > 0 {
				checkInverse(t, ofRank(r, p, n, n, n-1), false)
				checkInverse(t, constant(p, n, n, 0), false)
			}
		}
	}
	checkInverse(t, matrixOf(5, 1, 2, 1, 0), false)
	checkInverse(t, matrixOf(5, 2, 1, 1, 0), false)
	checkInverse(t, matrixOf(5, 0, 1), false)
}

func TestKernelOf(t *testing.T) {
	for _, c := range []struct{ a, want impl.Matrix }{
		{matrixOf(5, 1, 3, 1, 2, 3), matrixOf(5, 2, 3, 1, 0, 3, 0, 1, 1)},
		{matrixOf(5, 0, 3), impl.UnitMatrix(5, 3)}, {matrixOf(5, 0, 40), impl.UnitMatrix(5, 40)},
		{matrixOf(5, 3, 0), matrixOf(5, 0, 0)}, {matrixOf(5, 0, 0), matrixOf(5, 0, 0)},
		{matrixOf(5, 1, 2, 0, 1), matrixOf(5, 1, 2, 1, 0)}, {matrixOf(5, 2, 2, 1, 1, 0, 1), matrixOf(5, 0, 2)},
		{matrixOf(2, 1, 3, 1, 1, 1), matrixOf(2, 2, 3, 1, 0, 1, 0, 1, 1)},
	} {
		mustMatrix(t, "kernel", impl.KernelOf(c.a), true, c.want)
	}
}

func TestKernelsOfSmall(t *testing.T) {
	eachSmall(10, func(a impl.Matrix) {
		k := impl.KernelOf(a)
		if !impl.MatrixOk(k) || !reducedSpace(k) || k.P != a.P || k.Cols != a.Cols {
			t.Fatal(a, k)
		}
		elements := sumsOfRows(k)
		for _, x := range allVectors(a.P, a.Cols) {
			if zeroVector(times(a, x)) != elements[text(x)] {
				t.Error(a, k, x)
			}
		}
	})
}

func TestKernelsOfLarge(t *testing.T) {
	eachLarge(11, func(r *rand.Rand, a impl.Matrix, rank int) {
		k := impl.KernelOf(a)
		if !impl.MatrixOk(k) || !reducedSpace(k) || k.Rows != a.Cols-rank || k.Cols != a.Cols || k.P != a.P {
			t.Fatal(a, k)
		}
		for i := range k.Rows {
			if !zeroVector(times(a, row(k, i))) {
				t.Error(a, k)
			}
		}
	})
}

func TestExamplesOfSystems(t *testing.T) {
	for _, c := range []struct {
		a    impl.Matrix
		v, x []int
		ok   bool
	}{
		{matrixOf(7, 2, 2, 1, 2, 3, 4), []int{1, 0}, []int{5, 5}, true},
		{matrixOf(5, 1, 3, 0, 2, 1), []int{3}, []int{0, 4, 0}, true},
		{matrixOf(5, 2, 3, 1, 1, 2, 1, 1, 3), []int{1, 4}, []int{0, 0, 3}, true},
		{matrixOf(5, 2, 4, 1, 1, 2, 0, 2, 2, 4, 1), []int{1, 0}, []int{1, 0, 0, 3}, true},
		{matrixOf(5, 2, 2, 1, 2, 2, 4), []int{1, 2}, []int{1, 0}, true},
		{matrixOf(5, 2, 2, 1, 2, 2, 4), []int{1, 3}, nil, false},
		{matrixOf(5, 2, 1, 0, 1), []int{1, 0}, nil, false},
		{matrixOf(5, 0, 3), nil, []int{0, 0, 0}, true},
		{matrixOf(5, 2, 0), []int{0, 0}, nil, true},
		{matrixOf(5, 2, 0), []int{0, 1}, nil, false},
		{matrixOf(5, 0, 0), nil, nil, true},
		{matrixOf(2, 2, 2, 0, 1, 1, 0), []int{1, 0}, []int{0, 1}, true},
	} {
		x, ok := impl.SolveMatrix(c.a, c.v)
		if ok != c.ok || !slices.Equal(x, c.x) || !ok && x != nil {
			t.Error(c.a, c.v, x, ok)
		}
	}
}

func TestSystemsWithWrongVectors(t *testing.T) {
	a := matrixOf(5, 2, 2, 1, 0, 0, 1)
	for _, v := range [][]int{
		nil, {1}, {1, 2, 3}, {5, 0}, {0, 5}, {-1, 0}, {0, -1}, {math.MinInt, 0}, {0, math.MaxInt}, {1, 2, 0},
	} {
		if x, ok := impl.SolveMatrix(a, v); ok || x != nil {
			t.Error(v, x, ok)
		}
	}
	if x, ok := impl.SolveMatrix(matrixOf(5, 0, 2), []int{0}); ok || x != nil {
		t.Error(x, ok)
	}
	if x, ok := impl.SolveMatrix(matrixOf(5, 2, 3, 1, 0, 0, 0, 1, 0), []int{1, 1, 1}); ok || x != nil {
		t.Error("one number for each row, not for each column")
	}
}

func TestSystemsOfSmall(t *testing.T) {
	eachSmall(12, func(a impl.Matrix) {
		_, pivots := impl.ReduceMatrix(a)
		found := map[string][]int{}
		for _, x := range allVectors(a.P, a.Cols) {
			free := false
			for c, n := range x {
				free = free || n != 0 && !slices.Contains(pivots, c)
			}
			if !free {
				found[text(times(a, x))] = x
			}
		}
		for _, v := range allVectors(a.P, a.Rows) {
			x, ok := impl.SolveMatrix(a, v)
			want, there := found[text(v)]
			if ok != there || !slices.Equal(x, want) {
				t.Error(a, v, x, ok)
			}
		}
	})
}

func TestSystemsOfLarge(t *testing.T) {
	eachLarge(13, func(r *rand.Rand, a impl.Matrix, rank int) {
		v := times(a, randomVector(r, a.P, a.Cols))
		x, ok := impl.SolveMatrix(a, v)
		if !ok || len(x) != a.Cols || !slices.Equal(times(a, x), v) {
			t.Fatal(a, v, x, ok)
		}
		_, pivots := impl.ReduceMatrix(a)
		for c, n := range x {
			if n != 0 && !slices.Contains(pivots, c) {
				t.Error(a, v, x)
			}
		}
		u := randomVector(r, a.P, a.Rows)
		joined := constant(a.P, a.Cols+1, a.Rows, 0)
		copy(joined.Data, impl.TransposeMatrix(a).Data)
		copy(joined.Data[a.Cols*a.Rows:], u)
		if a.Cols < 40 {
			if _, ok := impl.SolveMatrix(a, u); ok != (impl.RankOf(joined) == rank) {
				t.Error(a, u, ok)
			}
		}
	})
}

func TestExamplesOfNilpotency(t *testing.T) {
	shift := constant(5, 40, 40, 0)
	for i := range 39 {
		shift.Data[i*40+i+1] = 1
	}
	for _, c := range []struct {
		a    impl.Matrix
		want int
	}{
		{matrixOf(5, 0, 0), 0}, {matrixOf(5, 1, 1, 0), 1}, {matrixOf(5, 1, 1, 1), -1}, {constant(5, 40, 40, 0), 1},
		{matrixOf(5, 2, 2, 0, 1, 0, 0), 2}, {matrixOf(5, 2, 2, 1, 4, 1, 4), 2}, {matrixOf(2, 2, 2, 1, 1, 1, 1), 2},
		{matrixOf(3, 2, 2, 1, 1, 1, 1), -1}, {matrixOf(5, 3, 3, 0, 1, 2, 0, 0, 3, 0, 0, 0), 3}, {shift, 40},
		{impl.UnitMatrix(5, 40), -1}, {matrixOf(5, 1, 2, 0, 0), -1}, {matrixOf(5, 2, 1, 0, 0), -1}, {matrixOf(5, 0, 1), -1}, {matrixOf(5, 1, 0), -1},
	} {
		if n := impl.NilpotencyOf(c.a); n != c.want {
			t.Error(c.a, n)
		}
	}
}

func TestNilpotencyOfSmall(t *testing.T) {
	for n := range 4 {
		for _, data := range allVectors(2, n*n) {
			a := matrixOf(2, n, n, data...)
			want, power := -1, impl.UnitMatrix(2, n)
			for k := 0; k < 12 && want < 0; k++ {
				if zeroVector(power.Data) {
					want = k
				}
				power = multiply(power, a)
			}
			if got := impl.NilpotencyOf(a); got != want {
				t.Error(a, got, want)
			}
		}
	}
}
