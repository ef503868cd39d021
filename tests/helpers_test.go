package tests

import (
	"math"
	"math/big"
	"math/rand/v2"
	"slices"
	"testing"

	"loop.example/g03109/impl"
)

var (
	somePrimes = []int{2, 3, 5, 7, 101, 10007}
	noPrimes   = []int{math.MinInt, -10007, -7, -2, -1, 0, 1, 4, 9, 25, 49, 10001, 10005, 10006, 10008, 10009, 10037, 1 << 32, math.MaxInt}
	extremes   = []int{math.MinInt, math.MinInt + 1, -1 << 32, -10008, -1, 0, 1, 10008, 1 << 32, math.MaxInt - 1, math.MaxInt}
)

// newRandom gives the same numbers on each run.
func newRandom(seed uint64) *rand.Rand { return rand.New(rand.NewPCG(seed, 17)) }

func matrixOf(p int, rows int, cols int, data ...int) impl.Matrix {
	return impl.Matrix{P: p, Rows: rows, Cols: cols, Data: data}
}

func randomVector(r *rand.Rand, p int, n int) []int {
	v := make([]int, n)
	for i := range v {
		v[i] = r.IntN(p)
	}
	return v
}

func randomMatrix(r *rand.Rand, p int, rows int, cols int) impl.Matrix {
	return matrixOf(p, rows, cols, randomVector(r, p, rows*cols)...)
}

// lowRank has a rank of at most rank, and so, mostly, rows that depend on others.
func lowRank(r *rand.Rand, p int, rows int, cols int, rank int) impl.Matrix {
	return multiply(randomMatrix(r, p, rows, rank), randomMatrix(r, p, rank, cols))
}

// constant has the same number everywhere.
func constant(p int, rows int, cols int, x int) impl.Matrix {
	return matrixOf(p, rows, cols, slices.Repeat([]int{x}, rows*cols)...)
}

// multiply is the product by its definition.
func multiply(a impl.Matrix, b impl.Matrix) impl.Matrix {
	m := constant(a.P, a.Rows, b.Cols, 0)
	for i := range a.Rows {
		for j := range b.Cols {
			sum := 0
			for k := range a.Cols {
				sum += at(a, i, k) * at(b, k, j)
			}
			m.Data[i*m.Cols+j] = sum % a.P
		}
	}
	return m
}

func at(m impl.Matrix, i int, j int) int { return m.Data[i*m.Cols+j] }

func row(m impl.Matrix, i int) []int { return m.Data[i*m.Cols : (i+1)*m.Cols] }

// times is a x for a column x.
func times(a impl.Matrix, x []int) []int {
	return multiply(a, matrixOf(a.P, len(x), 1, x...)).Data
}

func sameMatrix(a impl.Matrix, b impl.Matrix) bool {
	return a.P == b.P && a.Rows == b.Rows && a.Cols == b.Cols && slices.Equal(a.Data, b.Data)
}

// validMatrix says by the document's words, without the program, what MatrixOk must say.
func validMatrix(m impl.Matrix) bool {
	if m.P < 2 || m.P > 10007 || !big.NewInt(int64(m.P)).ProbablyPrime(0) {
		return false
	}
	if m.Rows < 0 || m.Rows > 40 || m.Cols < 0 || m.Cols > 40 || len(m.Data) != m.Rows*m.Cols {
		return false
	}
	return !slices.ContainsFunc(m.Data, func(x int) bool { return x < 0 || x >= m.P })
}

// primesBelow crosses multiples out.
func primesBelow(n int) []int {
	crossed := make([]bool, n)
	var primes []int
	for i := 2; i < n; i++ {
		if crossed[i] {
			continue
		}
		primes = append(primes, i)
		for j := i * i; j < n; j += i {
			crossed[j] = true
		}
	}
	return primes
}

// allVectors returns all lists of n residues, in lexicographic order.
func allVectors(p int, n int) [][]int {
	list := [][]int{{}}
	for range n {
		var longer [][]int
		for _, v := range list {
			for x := range p {
				longer = append(longer, append(slices.Clone(v), x))
			}
		}
		list = longer
	}
	return list
}

// sumsOfRows returns the texts of all sums of multiples of the rows.
func sumsOfRows(m impl.Matrix) map[string]bool {
	set := map[string]bool{}
	for _, x := range allVectors(m.P, m.Rows) {
		set[text(combine(m, x))] = true
	}
	return set
}

// combine returns the sum of x[i] times the row i.
func combine(m impl.Matrix, x []int) []int {
	return multiply(matrixOf(m.P, 1, m.Rows, x...), m).Data
}

func text(v []int) string {
	b := make([]rune, len(v))
	for i, x := range v {
		b[i] = rune('a' + x)
	}
	return string(b)
}

// reducedSpace says by the document's words whether s is in reduced form.
func reducedSpace(s impl.Matrix) bool {
	before := -1
	for i := range s.Rows {
		c := slices.IndexFunc(row(s, i), func(x int) bool { return x != 0 })
		if c <= before || at(s, i, c) != 1 {
			return false
		}
		for j := range s.Rows {
			if j != i && at(s, j, c) != 0 {
				return false
			}
		}
		before = c
	}
	return true
}

// invalidMatrices has each reason for which a matrix is not valid alone, as far as possible.
func invalidMatrices() []impl.Matrix {
	list := []impl.Matrix{
		{},
		matrixOf(5, -1, 0), matrixOf(5, 0, -1), matrixOf(5, -1, -1), matrixOf(5, -1, -1, 1), matrixOf(5, -2, -2, 1, 0, 0, 1),
		constant(5, 41, 1, 1), constant(5, 1, 41, 1), matrixOf(5, 41, 0), matrixOf(5, 0, 41), constant(2, 41, 41, 1),
		matrixOf(5, 2, 2), matrixOf(5, 2, 2, 1, 0, 0), matrixOf(5, 2, 2, 1, 0, 0, 1, 0), matrixOf(5, 0, 0, 0), matrixOf(5, 0, 3, 0, 0, 0),
		matrixOf(5, 2, 2, 1, 0, 0, 5), matrixOf(5, 2, 2, -1, 0, 0, 1), matrixOf(2, 1, 1, 2), matrixOf(10007, 1, 1, 10007), matrixOf(10007, 1, 1, -1),
		matrixOf(5, 1, 1, math.MinInt), matrixOf(5, 1, 1, math.MaxInt),
		// the product of these sizes is 0 in 64 bits
		matrixOf(5, 1<<32, 1<<32), matrixOf(5, math.MinInt, 2), matrixOf(5, 2, math.MinInt),
		matrixOf(5, math.MaxInt, math.MaxInt, 1), matrixOf(5, math.MaxInt, 0), matrixOf(5, 0, math.MinInt),
	}
	for _, p := range noPrimes {
		list = append(list, matrixOf(p, 1, 1, 0), matrixOf(p, 0, 0))
	}
	return list
}

// mustMatrix reports a result that failed or differs.
func mustMatrix(t *testing.T, what string, got impl.Matrix, ok bool, want impl.Matrix) {
	t.Helper()
	if !ok || !sameMatrix(got, want) {
		t.Errorf("%s: %v %v, not %v", what, got, ok, want)
	}
}
