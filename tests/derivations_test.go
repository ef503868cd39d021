package tests

import (
	"math/rand/v2"
	"slices"
	"testing"

	"loop.example/g03109/impl"
)

// TestDerivationsOfSmall tries all maps.
func TestDerivationsOfSmall(t *testing.T) {
	derivations, automorphisms := 0, 0
	eachSquare(func(a impl.Algebra, m impl.Matrix) {
		got, same := impl.IsDerivation(a, m), impl.IsAutomorphism(a, m)
		if got != derivationBy(a, m) {
			t.Error(a, m, got)
		}
		_, regular := impl.InverseMatrix(m)
		if same != (regular && respects(a, a, m)) {
			t.Error(a, m, same)
		}
		if got {
			derivations++
		}
		if same {
			automorphisms++
		}
	})
	if derivations < 1000 || automorphisms < 500 {
		t.Error(derivations, automorphisms)
	}
}

func TestDerivations(t *testing.T) {
	eachUpToEight(120, func(r *rand.Rand, a impl.Algebra) {
		var equations [][]int
		forAll(a, func(i, j, k int) bool {
			v := make([]int, a.Dim*a.Dim)
			for l := range a.Dim {
				v[l*a.Dim+k] += tableEntry(a, i, j)[l]
				v[i*a.Dim+l] -= tableEntry(a, l, j)[k]
				v[j*a.Dim+l] -= tableEntry(a, i, l)[k]
			}
			equations = append(equations, residues(v, a.P))
			return true
		})
		mustSpace(t, "derivations", a, impl.Derivations(a), equations, derivationBy)
	})
}

// TestInnerDerivations says that the list spans the adjoint matrices, and no more.
func TestInnerDerivations(t *testing.T) {
	eachUpToEight(121, func(r *rand.Rand, a impl.Algebra) {
		list := impl.InnerDerivations(a)
		var rows [][]int
		for i := range a.Dim {
			rows = append(rows, adjointBy(a, unitVector(a.Dim, i)).Data)
		}
		both := slices.Concat(copyEach(list, slices.Clone), copyEach(rows, slices.Clone))
		rank := rankBy(a.P, rows)
		if len(list) != rank || rankBy(a.P, both) != rank || rank != a.Dim-impl.CentreOf(a).Rows {
			t.Error(a, list)
		}
		if !spaceByDefinition(matrixOf(a.P, len(list), a.Dim*a.Dim, slices.Concat(list...)...)) {
			t.Error(a, list)
		}
	})
}

func TestCountsOfDerivations(t *testing.T) {
	check := func(what string, a impl.Algebra, all int, inner int) {
		t.Helper()
		checkCount(t, what, impl.Derivations(a), all)
		checkCount(t, what, impl.InnerDerivations(a), inner)
	}
	for _, p := range somePrimes {
		for n := range 9 {
			check("abelian", withTerms(p, n), n*n, 0)
		}
		check("affine", affine(p), 2, 2)
		check("dimension 3", heisenberg(p), 6, 2)
		check("dimension 9", general(p, 3), 0, 0)
		check("dimension 9", withTerms(p, 9), 0, 0)
		check("dimension 28", withTerms(p, 28), 0, 0)
	}
	for _, p := range []int{3, 5, 7, 10007} {
		check("trace 0", special(p), 3, 3)
		check("all", general(p, 2), 4, 3)
		check("two parts", sumOf(special(p), special(p)), 6, 6)
	}
	check("dimension 8", traceless(5, 3), 8, 8)
	// Modulo 3, the unit matrix has the trace 0. All matrices act on those of trace 0; the quotient by the unit matrix has the derivations of the type G2.
	a := traceless(3, 3)
	check("dimension 8", a, 8, 7)
	q, ok := impl.QuotientTable(a, impl.CentreOf(a))
	if !ok || !impl.IsPerfect(q) {
		t.Error(q, ok)
	}
	check("dimension 7", q, 14, 7)
	for _, bad := range algebrasWithFlaws() {
		check("no algebra", bad, 0, 0)
	}
}

// TestListsOfDerivations has lists that can be written down.
func TestListsOfDerivations(t *testing.T) {
	if got := impl.Derivations(affine(7)); !slices.EqualFunc(got, [][]int{{0, 1, 0, 0}, {0, 0, 0, 1}}, slices.Equal) {
		t.Error(got)
	}
	if got := impl.InnerDerivations(affine(7)); !slices.EqualFunc(got, [][]int{{0, 1, 0, 0}, {0, 0, 0, 1}}, slices.Equal) {
		t.Error(got)
	}
	if got := impl.InnerDerivations(heisenberg(7)); !slices.EqualFunc(got, [][]int{{0, 0, 1, 0, 0, 0, 0, 0, 0}, {0, 0, 0, 0, 0, 1, 0, 0, 0}}, slices.Equal) {
		t.Error(got)
	}
	want := [][]int{{1, 0, 0, 0, 0, 0, 0, 0, 1}, {0, 1, 0, 0, 0, 0, 0, 0, 0}, {0, 0, 1, 0, 0, 0, 0, 0, 0}, {0, 0, 0, 1, 0, 0, 0, 0, 0}, {0, 0, 0, 0, 1, 0, 0, 0, 1}, {0, 0, 0, 0, 0, 1, 0, 0, 0}}
	if got := impl.Derivations(heisenberg(7)); !slices.EqualFunc(got, want, slices.Equal) {
		t.Error(got)
	}
	if got := impl.InvariantForms(affine(7)); !slices.EqualFunc(got, [][]int{{1, 0, 0, 0}}, slices.Equal) {
		t.Error(got)
	}
	// The Killing form is 8 times this one.
	if got := impl.InvariantForms(special(7)); !slices.EqualFunc(got, [][]int{{1, 0, 0, 0, 0, 4, 0, 4, 0}}, slices.Equal) {
		t.Error(got)
	}
}

func TestLawsOfDerivations(t *testing.T) {
	eachAlgebra(122, func(r *rand.Rand, a impl.Algebra) {
		x, y := randomVector(r, a.P, a.Dim), randomVector(r, a.P, a.Dim)
		dx, dy := impl.AdjointOf(a, x), impl.AdjointOf(a, y)
		if !impl.IsDerivation(a, dx) || !impl.IsDerivation(a, dy) || !impl.IsDerivation(a, constant(a.P, a.Dim, a.Dim, 0)) {
			t.Error(a, x, y)
		}
		m := invertible(r, a.P, a.Dim)
		back, _ := impl.InverseMatrix(m)
		b := rebased(a, m, back)
		if !impl.IsDerivation(b, multiply(multiply(m, dx), back)) {
			t.Error(a, m, x)
		}
		abelian := !slices.ContainsFunc(a.Table, func(x int) bool { return x != 0 })
		if impl.IsDerivation(a, impl.UnitMatrix(a.P, a.Dim)) != abelian {
			t.Error(a)
		}
		if a.Dim <= 4 {
			checkBrackets(t, a)
		}
	})
}

// checkBrackets says that commutators of derivations are derivations.
func checkBrackets(t *testing.T, a impl.Algebra) {
	t.Helper()
	list := impl.Derivations(a)
	for _, d := range list {
		for _, e := range list {
			m, _ := impl.CommutatorOf(matrixOf(a.P, a.Dim, a.Dim, d...), matrixOf(a.P, a.Dim, a.Dim, e...))
			if !impl.IsDerivation(a, m) {
				t.Error(a, d, e)
			}
		}
	}
}

// TestDerivationsWithFlaws changes one number of derivations of larger algebras.
func TestDerivationsWithFlaws(t *testing.T) {
	r := newRandom(123)
	for _, a := range []impl.Algebra{sumOf(general(10007, 5), heisenberg(10007)), upperTable(2, 7, 0), scrambled(r, general(3, 3))} {
		d := adjointBy(a, randomVector(r, a.P, a.Dim))
		if !impl.IsDerivation(a, d) {
			t.Error(a.Dim)
		}
		for range 40 {
			place := r.IntN(len(d.Data))
			old := d.Data[place]
			d.Data[place] = (old + 1 + r.IntN(a.P-1)) % a.P
			if got := impl.IsDerivation(a, d); got != derivationBy(a, d) {
				t.Error(a.Dim, place, got)
			}
			d.Data[place] = old
		}
	}
}

// jordan has ones behind its diagonal, and so the nilpotency n.
func jordan(p int, n int) impl.Matrix {
	m := constant(p, n, n, 0)
	for i := range n - 1 {
		m.Data[i*n+i+1] = 1
	}
	return m
}

// expBy is the sum by its definition, of as many powers as m has rows or one.
func expBy(m impl.Matrix) impl.Matrix {
	sum, power, factor := constant(m.P, m.Rows, m.Rows, 0), impl.UnitMatrix(m.P, m.Rows), 1
	for k := range max(m.Rows, 1) {
		if k > 0 {
			power = multiply(power, m)
			factor = factor * (k % m.P) % m.P
		}
		for i, x := range power.Data {
			sum.Data[i] = (sum.Data[i] + x*impl.InverseOf(factor, m.P)) % m.P
		}
	}
	return sum
}

func TestExamplesOfExp(t *testing.T) {
	for _, c := range []struct{ m, want impl.Matrix }{
		{matrixOf(5, 0, 0), matrixOf(5, 0, 0)}, {matrixOf(2, 0, 0), matrixOf(2, 0, 0)},
		{matrixOf(2, 1, 1, 0), matrixOf(2, 1, 1, 1)}, {constant(10007, 40, 40, 0), impl.UnitMatrix(10007, 40)}, {constant(2, 40, 40, 0), impl.UnitMatrix(2, 40)},
		{matrixOf(2, 2, 2, 0, 1, 0, 0), matrixOf(2, 2, 2, 1, 1, 0, 1)}, {matrixOf(2, 2, 2, 1, 1, 1, 1), matrixOf(2, 2, 2, 0, 1, 1, 0)},
		{jordan(3, 3), matrixOf(3, 3, 3, 1, 1, 2, 0, 1, 1, 0, 0, 1)},
		{jordan(5, 4), matrixOf(5, 4, 4, 1, 1, 3, 1, 0, 1, 1, 3, 0, 0, 1, 1, 0, 0, 0, 1)},
		{matrixOf(7, 2, 2, 0, 0, 3, 0), matrixOf(7, 2, 2, 1, 0, 3, 1)},
	} {
		got, ok := impl.ExpMatrix(c.m)
		mustMatrix(t, "exp", got, ok, c.want)
	}
}

// TestExpUpToP has matrices whose nilpotency is at most P, and those that have one more.
func TestExpUpToP(t *testing.T) {
	r := newRandom(124)
	for _, p := range []int{2, 3, 5, 7, 11, 31, 37, 41, 101, 10007} {
		for _, n := range []int{1, 2, p - 1, p, p + 1, p + 2, 39, 40} {
			if n < 1 || n > 40 {
				continue
			}
			m := jordan(p, n)
			if left := invertible(r, p, n); n > 2 {
				right, _ := impl.InverseMatrix(left)
				m = multiply(multiply(left, m), right)
			}
			got, ok := impl.ExpMatrix(m)
			if n > p {
				mustFail(t, "exp", got, ok)
				continue
			}
			mustMatrix(t, "exp", got, ok, expBy(m))
		}
	}
}

func TestExpOfSmall(t *testing.T) {
	for _, size := range [][2]int{{2, 1}, {2, 2}, {2, 3}, {3, 2}, {5, 2}, {7, 1}} {
		for _, data := range allVectors(size[0], size[1]*size[1]) {
			m := matrixOf(size[0], size[1], size[1], data...)
			got, ok := impl.ExpMatrix(m)
			if n := impl.NilpotencyOf(m); n < 0 || n > m.P {
				mustFail(t, "exp", got, ok)
				continue
			}
			mustMatrix(t, "exp", got, ok, expBy(m))
		}
	}
}

// TestLawsOfExp says that sums of multiples of one matrix become products.
func TestLawsOfExp(t *testing.T) {
	r := newRandom(125)
	for _, p := range []int{2, 3, 5, 41, 101, 10007} {
		for range 10 {
			n := min(p, 1+r.IntN(12))
			left := invertible(r, p, n)
			right, _ := impl.InverseMatrix(left)
			upper := constant(p, n, n, 0)
			for i := range n {
				for j := i + 1; j < n; j++ {
					upper.Data[i*n+j] = r.IntN(p)
				}
			}
			m := multiply(multiply(left, upper), right)
			j, k := r.IntN(p), r.IntN(p)
			one, ok := impl.ExpMatrix(impl.ScaleMatrix(m, j))
			two, fine := impl.ExpMatrix(impl.ScaleMatrix(m, k))
			both, good := impl.ExpMatrix(impl.ScaleMatrix(m, j+k))
			mustMatrix(t, "product", both, ok && fine && good, multiply(one, two))
		}
	}
}

func TestExpFails(t *testing.T) {
	for _, m := range append(invalidMatrices(), impl.UnitMatrix(5, 1), impl.UnitMatrix(5, 40), matrixOf(5, 2, 2, 0, 1, 1, 0), matrixOf(5, 3, 3, 0, 1, 0, 0, 0, 0, 0, 0, 1),
		constant(5, 2, 3, 0), constant(5, 3, 2, 0), matrixOf(5, 0, 1), matrixOf(5, 1, 0), jordan(2, 3), jordan(3, 4), jordan(5, 6), jordan(37, 38), jordan(2, 40)) {
		got, ok := impl.ExpMatrix(m)
		mustFail(t, "exp", got, ok)
	}
}

func TestAutomorphisms(t *testing.T) {
	for _, p := range []int{5, 7, 10007} {
		a := special(p)
		for _, x := range [][]int{{0, 1, 0}, {0, 0, 1}, {0, p - 2, 0}, {1, 1, p - 1}} {
			d := impl.AdjointOf(a, x)
			m, ok := impl.ExpMatrix(d)
			if !ok || !impl.IsAutomorphism(a, m) || impl.IsAutomorphism(a, d) || impl.IsAutomorphism(a, impl.ScaleMatrix(m, 2)) {
				t.Error(p, x, m, ok)
			}
		}
		d := jordan(p, 2)
		m, _ := impl.ExpMatrix(d)
		if !impl.IsAutomorphism(affine(p), m) || impl.IsAutomorphism(affine(p), impl.TransposeMatrix(m)) {
			t.Error(p, m)
		}
	}
	eachAlgebra(126, func(r *rand.Rand, a impl.Algebra) {
		if !impl.IsAutomorphism(a, impl.UnitMatrix(a.P, a.Dim)) || impl.IsAutomorphism(a, constant(a.P, a.Dim, a.Dim, 0)) != (a.Dim == 0) {
			t.Error(a)
		}
		m := invertible(r, a.P, a.Dim)
		if got := impl.IsAutomorphism(a, m); got != respects(a, a, m) {
			t.Error(a, m, got)
		}
	})
	// Exchanged parts of a sum.
	swap := constant(7, 6, 6, 0)
	for i := range 6 {
		swap.Data[i*6+(i+3)%6] = 1
	}
	if !impl.IsAutomorphism(sumOf(special(7), special(7)), swap) || impl.IsAutomorphism(sumOf(special(7), heisenberg(7)), swap) {
		t.Error("exchanged")
	}
}

func TestMapsToItselfThatAreNone(t *testing.T) {
	a := withTerms(5, 3)
	if !impl.IsDerivation(a, constant(5, 3, 3, 0)) || !impl.IsAutomorphism(a, impl.UnitMatrix(5, 3)) {
		t.Error("there are maps")
	}
	for _, m := range noSquares() {
		if impl.IsDerivation(a, m) || impl.IsAutomorphism(a, m) {
			t.Error(m)
		}
	}
	for _, bad := range algebrasWithFlaws() {
		if impl.IsDerivation(bad, zeroFor(bad)) || impl.IsAutomorphism(bad, impl.UnitMatrix(bad.P, bad.Dim)) {
			t.Error(bad)
		}
	}
}
