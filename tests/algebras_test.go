package tests

import (
	"math"
	"math/rand/v2"
	"slices"
	"testing"

	"loop.example/g03109/impl"
)

// eachAlgebra calls f for small algebras and for some of up to the greatest dimension, each also in a random basis.
func eachAlgebra(seed uint64, f func(r *rand.Rand, a impl.Algebra)) {
	r := newRandom(seed)
	for _, p := range somePrimes {
		for _, a := range append(fewAlgebras(p), general(p, 3)) {
			f(r, a)
			f(r, scrambled(r, a))
		}
	}
	f(r, withTerms(10007, 28))
	f(r, scrambled(r, general(10007, 5)))
}

func TestAlgebraOk(t *testing.T) {
	for _, p := range somePrimes {
		for _, a := range append(fewAlgebras(p), general(p, 3), general(p, 5), withTerms(p, 28)) {
			if !impl.AlgebraOk(a) {
				t.Error(a)
			}
		}
	}
	if !impl.AlgebraOk(impl.Algebra{P: 2}) || !impl.AlgebraOk(impl.Algebra{P: 10007, Table: []int{}}) {
		t.Error("algebras of dimension 0 are valid")
	}
	for _, a := range algebrasWithFlaws() {
		if impl.AlgebraOk(a) || validAlgebra(a) {
			t.Error(a)
		}
	}
	if impl.MaxDim != 28 || impl.MaxBytes != 60000 {
		t.Error(impl.MaxDim, impl.MaxBytes)
	}
}

// TestAlgebraOkOfAll asks for all small tables.
func TestAlgebraOkOfAll(t *testing.T) {
	for _, size := range [][2]int{{2, 0}, {2, 1}, {3, 1}, {5, 1}, {2, 2}, {3, 2}} {
		for _, table := range allVectors(size[0], size[1]*size[1]*size[1]) {
			checkAlgebraOk(t, algebraOf(size[0], size[1], table...))
		}
	}
	for _, p := range []int{2, 3} {
		for _, a := range alternatingTables(p, 3) {
			checkAlgebraOk(t, a)
		}
	}
	r := newRandom(30)
	for range 3000 {
		a := alternating(4, 2, randomVector(r, 2, 24))
		checkAlgebraOk(t, a)
		broken := slices.Clone(a.Table)
		broken[r.IntN(64)] ^= 1
		checkAlgebraOk(t, algebraOf(2, 4, broken...))
	}
}

func checkAlgebraOk(t *testing.T, a impl.Algebra) {
	t.Helper()
	if got := impl.AlgebraOk(a); got != validAlgebra(a) {
		t.Error(a, got)
	}
}

// alternating has these numbers for i < j in order, and their negatives.
func alternating(dim int, p int, numbers []int) impl.Algebra {
	var terms []term
	for i := range dim {
		for j := i + 1; j < dim; j++ {
			for k := range dim {
				terms = append(terms, term{i, j, k, numbers[len(terms)]})
			}
		}
	}
	return withTerms(p, dim, terms...)
}

func alternatingTables(p int, dim int) []impl.Algebra {
	var list []impl.Algebra
	for _, numbers := range allVectors(p, dim*(dim-1)/2*dim) {
		list = append(list, alternating(dim, p, numbers))
	}
	return list
}

// TestAlgebraOkOfOneFlaw changes single numbers of valid tables of the greatest dimension.
func TestAlgebraOkOfOneFlaw(t *testing.T) {
	a, _ := impl.SumAlgebras(general(10007, 5), heisenberg(10007))
	if a.Dim != 28 || !impl.AlgebraOk(a) {
		t.Fatal(a.Dim)
	}
	r := newRandom(31)
	for range 60 {
		at := r.IntN(len(a.Table))
		old := a.Table[at]
		a.Table[at] = (old + 1 + r.IntN(10006)) % 10007
		if impl.AlgebraOk(a) {
			t.Error(at)
		}
		a.Table[at] = old
	}
	a.Table[len(a.Table)-1] = 10007
	if impl.AlgebraOk(a) {
		t.Error("10007 is no residue")
	}
}

func TestExamplesOfBrackets(t *testing.T) {
	a := special(7)
	if v := impl.BracketOf(a, []int{0, 1, 0}, []int{0, 0, 1}); !slices.Equal(v, []int{1, 0, 0}) {
		t.Error(v)
	}
	if v := impl.BracketOf(a, []int{0, 0, 1}, []int{0, 1, 0}); !slices.Equal(v, []int{6, 0, 0}) {
		t.Error(v)
	}
	if v := impl.BracketOf(a, []int{1, 2, 3}, []int{4, 5, 6}); !slices.Equal(v, []int{4, 1, 5}) {
		t.Error(v)
	}
	mustMatrix(t, "adjoint", impl.AdjointOf(a, []int{1, 0, 0}), true, matrixOf(7, 3, 3, 0, 0, 0, 0, 2, 0, 0, 0, 5))
	mustMatrix(t, "adjoint", impl.AdjointOf(a, []int{0, 1, 0}), true, matrixOf(7, 3, 3, 0, 5, 0, 0, 0, 0, 1, 0, 0))
	mustMatrix(t, "adjoint", impl.AdjointOf(algebraOf(7, 0), nil), true, matrixOf(7, 0, 0))
	if v := impl.BracketOf(algebraOf(7, 0), nil, []int{}); len(v) != 0 {
		t.Error(v)
	}
}

func TestLawsOfBrackets(t *testing.T) {
	eachAlgebra(32, func(r *rand.Rand, a impl.Algebra) {
		for range 3 {
			x, y, z := randomVector(r, a.P, a.Dim), randomVector(r, a.P, a.Dim), randomVector(r, a.P, a.Dim)
			xy, yz, zx := impl.BracketOf(a, x, y), impl.BracketOf(a, y, z), impl.BracketOf(a, z, x)
			if !slices.Equal(xy, bracketBy(a, x, y)) || !zeroVector(plus(a.P, xy, impl.BracketOf(a, y, x))) || !zeroVector(impl.BracketOf(a, x, x)) {
				t.Error(a, x, y, xy)
			}
			if !zeroVector(plus(a.P, impl.BracketOf(a, xy, z), impl.BracketOf(a, yz, x), impl.BracketOf(a, zx, y))) {
				t.Error("Jacobi", a, x, y, z)
			}
			ad := impl.AdjointOf(a, x)
			if ad.P != a.P || ad.Rows != a.Dim || ad.Cols != a.Dim || !slices.Equal(combine(ad, y), xy) {
				t.Error(a, x, ad)
			}
			for i := range a.Dim {
				if !slices.Equal(row(ad, i), bracketBy(a, x, unitVector(a.Dim, i))) {
					t.Error(a, x, ad)
				}
			}
		}
	})
}

func TestElementsThatAreNone(t *testing.T) {
	a := affine(5)
	for _, v := range [][]int{nil, {}, {1}, {1, 2, 3}, {5, 0}, {0, 5}, {-1, 0}, {0, -1}, {math.MinInt, 0}, {0, math.MaxInt}} {
		if got := impl.BracketOf(a, v, []int{0, 1}); got != nil {
			t.Error(v, got)
		}
		if got := impl.BracketOf(a, []int{0, 1}, v); got != nil {
			t.Error(v, got)
		}
		mustFail(t, "adjoint", impl.AdjointOf(a, v), false)
	}
	mustFail(t, "adjoint", impl.AdjointOf(algebraOf(5, 0), []int{0}), false)
}

func TestAbelianAlgebra(t *testing.T) {
	for _, p := range somePrimes {
		for _, n := range []int{0, 1, 2, 27, 28} {
			mustAlgebra(t, "abelian", impl.AbelianAlgebra(p, n), true, withTerms(p, n))
		}
		for _, n := range []int{-1, -28, 29, 40, 1 << 32, math.MinInt, math.MaxInt} {
			mustFail(t, "abelian", impl.AbelianAlgebra(p, n), false)
		}
	}
	for _, p := range noPrimes {
		for _, n := range []int{0, 1, 28} {
			mustFail(t, "abelian", impl.AbelianAlgebra(p, n), false)
		}
	}
}

func TestSumAlgebras(t *testing.T) {
	r := newRandom(33)
	sum, ok := impl.SumAlgebras(affine(5), heisenberg(5))
	mustAlgebra(t, "sum", sum, ok, withTerms(5, 5, term{0, 1, 1, 1}, term{2, 3, 4, 1}))
	for _, p := range somePrimes {
		for _, a := range fewAlgebras(p) {
			for _, b := range fewAlgebras(p) {
				sum, ok := impl.SumAlgebras(a, b)
				if !ok || !validAlgebra(sum) || sum.Dim != a.Dim+b.Dim || sum.P != p {
					t.Fatal(a, b, sum, ok)
				}
				x, y := randomVector(r, p, sum.Dim), randomVector(r, p, sum.Dim)
				want := append(bracketBy(a, x[:a.Dim], y[:a.Dim]), bracketBy(b, x[a.Dim:], y[a.Dim:])...)
				if !slices.Equal(impl.BracketOf(sum, x, y), want) {
					t.Error(a, b, x, y)
				}
			}
		}
	}
}

func TestSumsAtTheLimit(t *testing.T) {
	full, ok := impl.SumAlgebras(general(7, 5), special(7))
	if !ok || full.Dim != 28 || !impl.AlgebraOk(full) {
		t.Error(full.Dim, ok)
	}
	same, ok := impl.SumAlgebras(full, algebraOf(7, 0))
	mustAlgebra(t, "with nothing", same, ok, full)
	same, ok = impl.SumAlgebras(algebraOf(7, 0), full)
	mustAlgebra(t, "nothing with", same, ok, full)
	for _, pair := range [][2]impl.Algebra{
		{general(7, 5), general(7, 2)}, {full, algebraOf(7, 1, 0)}, {full, full},
		{affine(7), affine(5)}, {algebraOf(7, 0), algebraOf(5, 0)},
	} {
		sum, ok := impl.SumAlgebras(pair[0], pair[1])
		mustFail(t, "sum", sum, ok)
		sum, ok = impl.SumAlgebras(pair[1], pair[0])
		mustFail(t, "sum", sum, ok)
	}
}

// singles are the matrices with a single 1 in these places.
func singles(p int, size int, places ...int) []impl.Matrix {
	var list []impl.Matrix
	for _, place := range places {
		m := constant(p, size, size, 0)
		m.Data[place] = 1
		list = append(list, m)
	}
	return list
}

func upTo(n int) []int {
	list := make([]int, n)
	for i := range list {
		list[i] = i
	}
	return list
}

func TestExamplesOfMatrixAlgebras(t *testing.T) {
	for _, p := range somePrimes {
		a, ok := impl.AlgebraOfMatrices(singles(p, 3, 1, 2, 5))
		mustAlgebra(t, "strictly upper", a, ok, withTerms(p, 3, term{0, 2, 1, 1}))
		for n := 1; n <= 5; n++ {
			a, ok = impl.AlgebraOfMatrices(singles(p, n, upTo(n*n)...))
			mustAlgebra(t, "all", a, ok, general(p, n))
		}
		h, e, f := matrixOf(p, 2, 2, 1, 0, 0, p-1), matrixOf(p, 2, 2, 0, 1, 0, 0), matrixOf(p, 2, 2, 0, 0, 1, 0)
		a, ok = impl.AlgebraOfMatrices([]impl.Matrix{h, e, f})
		mustAlgebra(t, "trace 0", a, ok, special(p))
		a, ok = impl.AlgebraOfMatrices([]impl.Matrix{matrixOf(p, 1, 1, p-1)})
		mustAlgebra(t, "one number", a, ok, algebraOf(p, 1, 0))
	}
}

// TestMatrixAlgebrasOfLists takes matrices that depend on no single number: sums of others, in scrambled sizes of up to 40.
func TestMatrixAlgebrasOfLists(t *testing.T) {
	r := newRandom(34)
	for _, p := range somePrimes {
		for _, size := range []int{2, 3, 5, 6, 40} {
			n := 2 + r.IntN(2)
			if size < 6 {
				n = min(size, 3)
			}
			list := scrambledList(r, general(p, n), repeatedSingles(p, n, size))
			a, ok := impl.AlgebraOfMatrices(list)
			if !ok || a.P != p || a.Dim != n*n || !validAlgebra(a) {
				t.Fatal(p, size, a, ok)
			}
			for i := range list {
				for j := range list {
					c, _ := impl.CommutatorOf(list[i], list[j])
					mustMatrix(t, "bracket", sumOfMatrices(list, tableEntry(a, i, j)), true, c)
				}
			}
		}
	}
}

// repeatedSingles are the matrices with a single 1, repeated along the diagonal of larger ones.
func repeatedSingles(p int, n int, size int) []impl.Matrix {
	list := make([]impl.Matrix, n*n)
	for i := range list {
		list[i] = constant(p, size, size, 0)
		for first := 0; first+n <= size; first += n {
			list[i].Data[(first+i/n)*size+first+i%n] = 1
		}
	}
	return list
}

// scrambledList returns sums of multiples of the matrices, each between a random matrix and its inverse.
func scrambledList(r *rand.Rand, a impl.Algebra, list []impl.Matrix) []impl.Matrix {
	m, size := invertible(r, a.P, a.Dim), list[0].Rows
	left := invertible(r, a.P, size)
	right, _ := impl.InverseMatrix(left)
	var mixed []impl.Matrix
	for i := range list {
		mixed = append(mixed, multiply(multiply(left, sumOfMatrices(list, row(m, i))), right))
	}
	return mixed
}

func sumOfMatrices(list []impl.Matrix, x []int) impl.Matrix {
	sum := constant(list[0].P, list[0].Rows, list[0].Cols, 0)
	for i, m := range list {
		for k, n := range m.Data {
			sum.Data[k] = (sum.Data[k] + x[i]*n) % m.P
		}
	}
	return sum
}

func diagonals(p int, n int) []impl.Matrix {
	var places []int
	for i := range n {
		places = append(places, i*n+i)
	}
	return singles(p, n, places...)
}

func TestMatrixAlgebrasAtTheLimit(t *testing.T) {
	a, ok := impl.AlgebraOfMatrices(diagonals(5, 28))
	mustAlgebra(t, "diagonals", a, ok, withTerms(5, 28))
	a, ok = impl.AlgebraOfMatrices(diagonals(5, 40)[12:])
	mustAlgebra(t, "the last diagonals", a, ok, withTerms(5, 28))
	a, ok = impl.AlgebraOfMatrices(diagonals(5, 29))
	mustFail(t, "one more", a, ok)
	a, ok = impl.AlgebraOfMatrices(diagonals(5, 40))
	mustFail(t, "many more", a, ok)
	a, ok = impl.AlgebraOfMatrices(nil)
	mustFail(t, "none", a, ok)
	a, ok = impl.AlgebraOfMatrices([]impl.Matrix{})
	mustFail(t, "none", a, ok)
}

func TestMatrixAlgebrasThatFail(t *testing.T) {
	one, e, f := impl.UnitMatrix(5, 2), matrixOf(5, 2, 2, 0, 1, 0, 0), matrixOf(5, 2, 2, 0, 0, 1, 0)
	lists := [][]impl.Matrix{
		{e, f}, {f, e, one}, {one, one}, {e, one, matrixOf(5, 2, 2, 2, 3, 0, 2)}, {constant(5, 2, 2, 0)}, {e, constant(5, 2, 2, 0)},
		{impl.UnitMatrix(5, 0)}, {impl.UnitMatrix(5, 0), impl.UnitMatrix(5, 0)},
		{matrixOf(5, 1, 2, 0, 1)}, {one, matrixOf(5, 1, 4, 0, 1, 0, 0)}, {one, matrixOf(5, 4, 1, 0, 1, 0, 0)}, {matrixOf(5, 4, 1, 0, 1, 0, 0), one},
		{one, impl.UnitMatrix(5, 3)}, {impl.UnitMatrix(5, 3), one}, {one, impl.UnitMatrix(5, 0)}, {one, matrixOf(7, 2, 2, 0, 1, 0, 0)}, {matrixOf(7, 2, 2, 0, 1, 0, 0), one},
	}
	for _, m := range invalidMatrices() {
		lists = append(lists, []impl.Matrix{m}, []impl.Matrix{one, m}, []impl.Matrix{m, one})
	}
	for _, list := range lists {
		a, ok := impl.AlgebraOfMatrices(list)
		mustFail(t, "matrices", a, ok)
	}
	a, ok := impl.AlgebraOfMatrices([]impl.Matrix{one, e})
	mustAlgebra(t, "one and e", a, ok, withTerms(5, 2))
}

func TestChangeBasis(t *testing.T) {
	a, ok := impl.ChangeBasis(affine(5), matrixOf(5, 2, 2, 0, 1, 1, 0))
	mustAlgebra(t, "exchanged", a, ok, withTerms(5, 2, term{0, 1, 0, 4}))
	a, ok = impl.ChangeBasis(heisenberg(7), matrixOf(7, 3, 3, 2, 0, 0, 0, 1, 0, 1, 0, 3))
	mustAlgebra(t, "scaled", a, ok, withTerms(7, 3, term{0, 1, 0, 2}, term{0, 1, 2, 3}, term{1, 2, 0, 6}, term{1, 2, 2, 2}))
	eachAlgebra(35, func(r *rand.Rand, a impl.Algebra) {
		m := invertible(r, a.P, a.Dim)
		back, _ := impl.InverseMatrix(m)
		b, ok := impl.ChangeBasis(a, m)
		mustAlgebra(t, "basis", b, ok && impl.AlgebraOk(b), rebased(a, m, back))
		again, ok := impl.ChangeBasis(b, back)
		mustAlgebra(t, "and back", again, ok, a)
		if !impl.IsHomomorphism(b, a, m) || !impl.IsHomomorphism(a, b, back) {
			t.Error(a, m)
		}
		same, ok := impl.ChangeBasis(a, impl.UnitMatrix(a.P, a.Dim))
		mustAlgebra(t, "the same basis", same, ok, a)
	})
}

func TestChangeBasisFails(t *testing.T) {
	a := heisenberg(5)
	bases := append(invalidMatrices(), impl.UnitMatrix(7, 3), impl.UnitMatrix(5, 2), impl.UnitMatrix(5, 4), impl.UnitMatrix(5, 0),
		constant(5, 3, 3, 0), constant(5, 3, 3, 1), matrixOf(5, 3, 3, 1, 0, 0, 0, 1, 0, 1, 1, 0), constant(5, 3, 2, 1), constant(5, 2, 3, 1), matrixOf(5, 0, 3), matrixOf(5, 3, 0))
	for _, m := range bases {
		b, ok := impl.ChangeBasis(a, m)
		mustFail(t, "basis", b, ok)
	}
	b, ok := impl.ChangeBasis(algebraOf(5, 0), impl.UnitMatrix(5, 0))
	mustAlgebra(t, "no basis elements", b, ok, algebraOf(5, 0))
	b, ok = impl.ChangeBasis(algebraOf(5, 0), impl.UnitMatrix(5, 1))
	mustFail(t, "basis of another dimension", b, ok)
	b, ok = impl.ChangeBasis(algebraOf(5, 0), impl.UnitMatrix(7, 0))
	mustFail(t, "basis of another P", b, ok)
}
