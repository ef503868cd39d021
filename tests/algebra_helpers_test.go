package tests

import (
	"math"
	"math/rand/v2"
	"slices"
	"testing"

	"loop.example/g03109/impl"
)

func algebraOf(p int, dim int, table ...int) impl.Algebra {
	return impl.Algebra{P: p, Dim: dim, Table: table}
}

// term says that [i, j] contains the basis element k n times.
type term struct{ i, j, k, n int }

// withTerms writes each term in both orders.
func withTerms(p int, dim int, terms ...term) impl.Algebra {
	a := algebraOf(p, dim, make([]int, dim*dim*dim)...)
	for _, e := range terms {
		a.Table[(e.i*dim+e.j)*dim+e.k] = impl.Residue(e.n, p)
		a.Table[(e.j*dim+e.i)*dim+e.k] = impl.Residue(-e.n, p)
	}
	return a
}

func heisenberg(p int) impl.Algebra { return withTerms(p, 3, term{0, 1, 2, 1}) }

func affine(p int) impl.Algebra { return withTerms(p, 2, term{0, 1, 1, 1}) }

// special has the basis h, e, f of the matrices of trace 0.
func special(p int) impl.Algebra {
	return withTerms(p, 3, term{0, 1, 1, 2}, term{0, 2, 2, -2}, term{1, 2, 0, 1})
}

// general has the brackets of the matrices with a single 1: that of row i and column j is the basis element i * n + j.
func general(p int, n int) impl.Algebra {
	dim := n * n
	a := algebraOf(p, dim, make([]int, dim*dim*dim)...)
	for x := range dim {
		for y := range dim {
			at := (x*dim + y) * dim
			if x%n == y/n {
				a.Table[at+x/n*n+y%n]++
			}
			if y%n == x/n {
				a.Table[at+y/n*n+x%n] += p - 1
			}
		}
	}
	for i := range a.Table {
		a.Table[i] %= p
	}
	return a
}

// fewAlgebras are of dimensions from 0 to 4, so that their elements can be listed for small p.
func fewAlgebras(p int) []impl.Algebra {
	return []impl.Algebra{
		algebraOf(p, 0), algebraOf(p, 1, 0), withTerms(p, 2), withTerms(p, 3), affine(p), heisenberg(p), special(p), general(p, 2),
		withTerms(p, 3, term{0, 1, 1, 1}), withTerms(p, 3, term{0, 1, 1, 1}, term{0, 2, 2, -1}), withTerms(p, 3, term{0, 1, 1, 1}, term{0, 1, 2, 1}, term{0, 2, 2, 1}),
		withTerms(p, 4, term{0, 1, 2, 1}, term{0, 2, 3, 1}), withTerms(p, 4, term{0, 1, 1, 1}, term{2, 3, 3, 1}),
	}
}

// tableEntry returns the bracket of two basis elements.
func tableEntry(a impl.Algebra, i int, j int) []int {
	return a.Table[(i*a.Dim+j)*a.Dim : (i*a.Dim+j+1)*a.Dim]
}

// bracketBy is the bracket by its definition.
func bracketBy(a impl.Algebra, x []int, y []int) []int {
	sum := make([]int, a.Dim)
	for i := range a.Dim {
		for j := range a.Dim {
			times := x[i] * y[j] % a.P
			if times == 0 {
				continue
			}
			for k, n := range tableEntry(a, i, j) {
				sum[k] = (sum[k] + times*n) % a.P
			}
		}
	}
	return sum
}

func plus(p int, vectors ...[]int) []int {
	sum := make([]int, len(vectors[0]))
	for _, v := range vectors {
		for i, x := range v {
			sum[i] = (sum[i] + x) % p
		}
	}
	return sum
}

func unitVector(n int, i int) []int {
	v := make([]int, n)
	v[i] = 1
	return v
}

// validAlgebra says by the document's words what AlgebraOk must say.
func validAlgebra(a impl.Algebra) bool {
	if a.Dim < 0 || a.Dim > 28 || !validMatrix(matrixOf(a.P, 0, 0)) || len(a.Table) != a.Dim*a.Dim*a.Dim {
		return false
	}
	if slices.ContainsFunc(a.Table, func(x int) bool { return x < 0 || x >= a.P }) {
		return false
	}
	for i := range a.Dim {
		for j := range a.Dim {
			if !zeroVector(tableEntry(a, i, i)) || !zeroVector(plus(a.P, tableEntry(a, i, j), tableEntry(a, j, i))) {
				return false
			}
		}
	}
	return jacobi(a)
}

func jacobi(a impl.Algebra) bool {
	for i := range a.Dim {
		for j := range a.Dim {
			for k := range a.Dim {
				e := [3][]int{unitVector(a.Dim, i), unitVector(a.Dim, j), unitVector(a.Dim, k)}
				sum := plus(a.P, bracketBy(a, tableEntry(a, i, j), e[2]), bracketBy(a, tableEntry(a, j, k), e[0]), bracketBy(a, tableEntry(a, k, i), e[1]))
				if !zeroVector(sum) {
					return false
				}
			}
		}
	}
	return true
}

func sameAlgebra(a impl.Algebra, b impl.Algebra) bool {
	return a.P == b.P && a.Dim == b.Dim && slices.Equal(a.Table, b.Table)
}

func mustAlgebra(t *testing.T, what string, got impl.Algebra, ok bool, want impl.Algebra) {
	t.Helper()
	if !ok || !sameAlgebra(got, want) {
		t.Errorf("%s: %v %v, not %v", what, got, ok, want)
	}
}

// mustFail reports a result that is no failure.
func mustFail(t *testing.T, what string, got any, ok bool) {
	t.Helper()
	zero := false
	switch x := got.(type) {
	case impl.Matrix:
		zero = x.P == 0 && x.Rows == 0 && x.Cols == 0 && len(x.Data) == 0
	case impl.Algebra:
		zero = x.P == 0 && x.Dim == 0 && len(x.Table) == 0
	}
	if ok || !zero {
		t.Errorf("%s: %v %v, not a failure", what, got, ok)
	}
}

// rebased returns a in the basis of the rows of m, by the definition; m has the inverse back.
func rebased(a impl.Algebra, m impl.Matrix, back impl.Matrix) impl.Algebra {
	b := algebraOf(a.P, a.Dim)
	for i := range a.Dim {
		for j := range a.Dim {
			b.Table = append(b.Table, combine(back, bracketBy(a, row(m, i), row(m, j)))...)
		}
	}
	return b
}

// scrambled returns a in a random basis.
func scrambled(r *rand.Rand, a impl.Algebra) impl.Algebra {
	m := invertible(r, a.P, a.Dim)
	back, _ := impl.InverseMatrix(m)
	return rebased(a, m, back)
}

// allSpaces returns all spaces with these columns.
func allSpaces(p int, cols int) []impl.Matrix {
	var list []impl.Matrix
	for rows := range cols + 1 {
		for _, data := range allVectors(p, rows*cols) {
			if s := matrixOf(p, rows, cols, data...); spaceByDefinition(s) {
				list = append(list, s)
			}
		}
	}
	return list
}

// spacesOf returns all spaces of the elements of a if there are few, or else random ones.
func spacesOf(r *rand.Rand, p int, cols int) []impl.Matrix {
	if cols <= 2 || p == 2 && cols <= 3 {
		return allSpaces(p, cols)
	}
	list := []impl.Matrix{matrixOf(p, 0, cols), impl.UnitMatrix(p, cols)}
	for range 12 {
		list = append(list, impl.SpanOf(randomMatrix(r, p, 1+r.IntN(cols), cols)))
	}
	for i := range cols {
		line := matrixOf(p, 1, cols, unitVector(cols, i)...)
		list = append(list, line)
	}
	return list
}

// algebrasWithFlaws has each reason for which an algebra is not valid alone, as far as possible.
func algebrasWithFlaws() []impl.Algebra {
	list := []impl.Algebra{
		{},
		algebraOf(5, -1), algebraOf(5, -1, 0), algebraOf(5, -1, 4), algebraOf(5, -28), algebraOf(5, 29, make([]int, 29*29*29)...), algebraOf(5, 29),
		algebraOf(5, 0, 0), algebraOf(5, 1), algebraOf(5, 1, 0, 0), algebraOf(5, 2, 0, 0, 0, 0, 0, 0, 0), algebraOf(5, 2, 0, 0, 0, 0, 0, 0, 0, 0, 0), algebraOf(5, 2, 0, 0, 0, 0),
		algebraOf(5, math.MinInt), algebraOf(5, math.MaxInt), algebraOf(5, math.MaxInt, 0), algebraOf(5, 1<<32), algebraOf(5, 1<<22), algebraOf(2, 1<<21+1, 1),
		// no residues
		algebraOf(5, 1, 5), algebraOf(5, 1, -5), algebraOf(5, 1, math.MinInt), algebraOf(5, 1, math.MaxInt),
		algebraOf(5, 2, 0, 0, 0, 6, 0, -1, 0, 0), algebraOf(5, 2, 0, 0, 0, 1, 0, -1, 0, 0), algebraOf(5, 2, 0, 0, 0, 5, 0, 0, 0, 0), algebraOf(2, 2, 0, 0, 0, 1, 0, -1, 0, 0),
		// not alternating
		algebraOf(5, 1, 1), algebraOf(2, 1, 1), algebraOf(2, 2, 1, 0, 0, 0, 0, 0, 0, 0), algebraOf(2, 2, 0, 0, 0, 0, 0, 0, 0, 1),
		algebraOf(5, 2, 0, 0, 0, 1, 0, 1, 0, 0), algebraOf(5, 2, 0, 0, 0, 1, 0, 0, 0, 0), algebraOf(5, 2, 0, 0, 0, 0, 0, 4, 0, 0), algebraOf(3, 2, 0, 0, 1, 1, 2, 1, 0, 0),
		// without the law of Jacobi
		withTerms(5, 3, term{0, 1, 0, 1}, term{1, 2, 1, 1}), withTerms(5, 3, term{0, 1, 2, 1}, term{0, 2, 0, 1}),
		withTerms(2, 3, term{0, 1, 2, 1}, term{0, 2, 2, 1}, term{1, 2, 0, 1}), withTerms(3, 4, term{0, 1, 2, 1}, term{2, 3, 0, 1}),
		withTerms(10007, 28, term{25, 26, 27, 1}, term{25, 27, 25, 10006}),
	}
	for _, p := range noPrimes {
		list = append(list, algebraOf(p, 1, 0), algebraOf(p, 0))
	}
	return list
}
