package tests

import (
	"math/rand/v2"
	"slices"
	"testing"

	"loop.example/g03109/impl"
)

// adjointBy has in row i the bracket of x and the basis element i.
func adjointBy(a impl.Algebra, x []int) impl.Matrix {
	m := matrixOf(a.P, a.Dim, a.Dim)
	for i := range a.Dim {
		m.Data = append(m.Data, bracketBy(a, x, unitVector(a.Dim, i))...)
	}
	return m
}

// killingBy is the Killing form by its definition.
func killingBy(a impl.Algebra) impl.Matrix {
	form := constant(a.P, a.Dim, a.Dim, 0)
	for i := range a.Dim {
		for j := range a.Dim {
			m := multiply(adjointBy(a, unitVector(a.Dim, i)), adjointBy(a, unitVector(a.Dim, j)))
			for k := range a.Dim {
				form.Data[i*a.Dim+j] += at(m, k, k)
			}
			form.Data[i*a.Dim+j] %= a.P
		}
	}
	return form
}

// coboundaryBy is the form whose value for two basis elements is the sum of f[k] for all k in their bracket.
func coboundaryBy(a impl.Algebra, f []int) impl.Matrix {
	return matrixOf(a.P, a.Dim, a.Dim, multiply(matrixOf(a.P, a.Dim*a.Dim, a.Dim, a.Table...), matrixOf(a.P, a.Dim, 1, f...)).Data...)
}

// valueBy is the value of a form by its definition.
func valueBy(form impl.Matrix, x []int, y []int) int {
	sum := 0
	for i := range form.Rows {
		for j := range form.Cols {
			sum += x[i] * y[j] % form.P * at(form, i, j)
		}
	}
	return sum % form.P
}

// forAll says whether f is true for all basis elements.
func forAll(a impl.Algebra, f func(i, j, k int) bool) bool {
	for i := range a.Dim {
		for j := range a.Dim {
			for k := range a.Dim {
				if !f(i, j, k) {
					return false
				}
			}
		}
	}
	return true
}

func invariantBy(a impl.Algebra, form impl.Matrix) bool {
	return forAll(a, func(i, j, k int) bool {
		return valueBy(form, tableEntry(a, i, j), unitVector(a.Dim, k)) == valueBy(form, unitVector(a.Dim, i), tableEntry(a, j, k))
	})
}

func derivationBy(a impl.Algebra, m impl.Matrix) bool {
	for i := range a.Dim {
		for j := range a.Dim {
			sum := plus(a.P, bracketBy(a, row(m, i), unitVector(a.Dim, j)), bracketBy(a, unitVector(a.Dim, i), row(m, j)))
			if !slices.Equal(combine(m, tableEntry(a, i, j)), sum) {
				return false
			}
		}
	}
	return true
}

func cocycleBy(a impl.Algebra, form impl.Matrix) bool {
	for i := range a.Dim {
		for j := range a.Dim {
			if at(form, i, i) != 0 || (at(form, i, j)+at(form, j, i))%a.P != 0 {
				return false
			}
		}
	}
	return forAll(a, func(i, j, k int) bool {
		e := [3][]int{unitVector(a.Dim, i), unitVector(a.Dim, j), unitVector(a.Dim, k)}
		sum := valueBy(form, tableEntry(a, i, j), e[2]) + valueBy(form, tableEntry(a, j, k), e[0]) + valueBy(form, tableEntry(a, k, i), e[1])
		return sum%a.P == 0
	})
}

// eachSquare calls f for all square matrices of the size of small algebras: all algebras of dimension 3 modulo 2, and others.
func eachSquare(f func(a impl.Algebra, m impl.Matrix)) {
	var algebras []impl.Algebra
	for _, a := range alternatingTables(2, 3) {
		if validAlgebra(a) {
			algebras = append(algebras, a)
		}
	}
	for _, size := range [][2]int{{2, 2}, {3, 2}, {5, 2}, {7, 1}, {10007, 0}} {
		for _, a := range fewAlgebras(size[0]) {
			if a.Dim <= size[1] {
				algebras = append(algebras, a)
			}
		}
	}
	algebras = append(algebras, withTerms(5, 2, term{0, 1, 0, 2}), withTerms(3, 2, term{0, 1, 0, 1}, term{0, 1, 1, 2}))
	for _, a := range algebras {
		for _, data := range allVectors(a.P, a.Dim*a.Dim) {
			f(a, matrixOf(a.P, a.Dim, a.Dim, data...))
		}
	}
}

// traceless has the matrices of n rows whose trace is 0.
func traceless(p int, n int) impl.Algebra {
	trace := constant(p, 1, n*n, 0)
	for i := range n {
		trace.Data[i*n+i] = 1
	}
	a, _ := impl.SubTable(general(p, n), impl.KernelOf(trace))
	return a
}

// upperTable has the matrices with a single 1 in a column behind that of the row, or also (first = 0) in the same one.
func upperTable(p int, n int, first int) impl.Algebra {
	var places []int
	for i := range n {
		for j := i + first; j < n; j++ {
			places = append(places, i*n+j)
		}
	}
	a, _ := impl.AlgebraOfMatrices(singles(p, n, places...))
	return a
}

func sumOf(algebras ...impl.Algebra) impl.Algebra {
	sum := algebraOf(algebras[0].P, 0)
	for _, a := range algebras {
		sum, _ = impl.SumAlgebras(sum, a)
	}
	return sum
}

// chain has [0, i] = i + 1 for all i from 1 on.
func chain(p int, dim int) impl.Algebra {
	var terms []term
	for i := 1; i+1 < dim; i++ {
		terms = append(terms, term{0, i, i + 1, 1})
	}
	return withTerms(p, dim, terms...)
}

// eachUpToEight calls f for algebras of the dimensions from 0 to 8, each also in a random basis.
func eachUpToEight(seed uint64, f func(r *rand.Rand, a impl.Algebra)) {
	r := newRandom(seed)
	for _, p := range []int{2, 3, 5, 10007} {
		list := append(fewAlgebras(p), chain(p, 5), sumOf(heisenberg(p), affine(p)), chain(p, 6), upperTable(p, 3, 0), upperTable(p, 4, 1),
			sumOf(special(p), general(p, 2)), chain(p, 7), withTerms(p, 8), sumOf(special(p), heisenberg(p), affine(p)), chain(p, 8), traceless(p, 3))
		for _, a := range list {
			f(r, a)
			f(r, scrambled(r, a))
		}
	}
}

// rankBy takes rows of any number and length; it changes them.
func rankBy(p int, rows [][]int) int {
	rank := 0
	for len(rows) > 0 {
		first := rows[0]
		rows = rows[1:]
		c := slices.IndexFunc(first, func(x int) bool { return x != 0 })
		if c < 0 {
			continue
		}
		rank++
		back := impl.InverseOf(first[c], p)
		for _, other := range rows {
			if k := (p - other[c]) * back % p; k != 0 {
				for j, x := range first {
					other[j] = (other[j] + k*x) % p
				}
			}
		}
	}
	return rank
}

// mustSpace reports a list of square matrices that is not in reduced form, or has one for which holds is false, or has not as many as are free in the equations.
func mustSpace(t *testing.T, what string, a impl.Algebra, list [][]int, equations [][]int, holds func(a impl.Algebra, m impl.Matrix) bool) {
	t.Helper()
	size := a.Dim * a.Dim
	if want := size - rankBy(a.P, equations); len(list) != want {
		t.Errorf("%s of %v: %d, not %d", what, a, len(list), want)
	}
	for _, data := range list {
		if m := matrixOf(a.P, a.Dim, a.Dim, data...); !validMatrix(m) || !holds(a, m) {
			t.Fatal(what, a, data)
		}
	}
	if !spaceByDefinition(matrixOf(a.P, len(list), size, slices.Concat(list...)...)) {
		t.Error(what, a, list)
	}
}

// noSquares are no square matrices of size 3 modulo 5.
func noSquares() []impl.Matrix {
	list := append(invalidMatrices(), constant(7, 3, 3, 0), constant(5, 2, 2, 0), constant(5, 4, 4, 0), constant(5, 2, 3, 0), constant(5, 3, 2, 0), constant(5, 4, 3, 0), constant(5, 3, 4, 0),
		constant(5, 1, 9, 0), constant(5, 9, 1, 0), matrixOf(5, 0, 0), matrixOf(5, 0, 3), matrixOf(5, 3, 0), impl.UnitMatrix(7, 3), impl.UnitMatrix(5, 2), impl.UnitMatrix(5, 4),
		matrixOf(5, 3, 3), matrixOf(5, 3, 3, make([]int, 8)...), matrixOf(5, 3, 3, make([]int, 10)...), matrixOf(-5, 3, 3, make([]int, 9)...), matrixOf(25, 3, 3, make([]int, 9)...), matrixOf(0, 3, 3, make([]int, 9)...))
	for place := range 9 {
		for _, x := range []int{5, -5, -1, 10} {
			m := constant(5, 3, 3, 0)
			m.Data[place] = x
			list = append(list, m)
		}
	}
	return list
}
