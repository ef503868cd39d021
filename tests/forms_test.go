package tests

import (
	"math/rand/v2"
	"testing"

	"loop.example/g03109/impl"
)

func TestKillingForm(t *testing.T) {
	for _, p := range somePrimes {
		mustMatrix(t, "trace 0", impl.KillingForm(special(p)), true, matrixOf(p, 3, 3, 8%p, 0, 0, 0, 0, 4%p, 0, 4%p, 0))
		mustMatrix(t, "affine", impl.KillingForm(affine(p)), true, matrixOf(p, 2, 2, 1, 0, 0, 0))
		mustMatrix(t, "dimension 0", impl.KillingForm(algebraOf(p, 0)), true, matrixOf(p, 0, 0))
		mustMatrix(t, "abelian", impl.KillingForm(withTerms(p, 28)), true, constant(p, 28, 28, 0))
		mustMatrix(t, "nilpotent", impl.KillingForm(upperTable(p, 8, 1)), true, constant(p, 28, 28, 0))
	}
	eachAlgebra(110, func(r *rand.Rand, a impl.Algebra) {
		form := impl.KillingForm(a)
		mustMatrix(t, "Killing form", form, impl.IsInvariant(a, form), killingBy(a))
	})
	eachUpToEight(111, func(r *rand.Rand, a impl.Algebra) {
		mustMatrix(t, "Killing form", impl.KillingForm(a), true, killingBy(a))
	})
}

// TestKillingFormOfMatrices has the value 2 n tr(xy) - 2 tr(x) tr(y) for all matrices of n rows.
func TestKillingFormOfMatrices(t *testing.T) {
	for _, p := range []int{2, 5, 10007} {
		for n := 1; n <= 5; n++ {
			want := constant(p, n*n, n*n, 0)
			for x := range n * n {
				for y := range n * n {
					if x/n == y%n && x%n == y/n {
						want.Data[x*n*n+y] += 2 * n
					}
					if x/n == x%n && y/n == y%n {
						want.Data[x*n*n+y] -= 2
					}
					want.Data[x*n*n+y] = impl.Residue(want.Data[x*n*n+y], p)
				}
			}
			mustMatrix(t, "Killing form", impl.KillingForm(general(p, n)), true, want)
		}
	}
}

// TestFormsOfSmall tries all forms.
func TestFormsOfSmall(t *testing.T) {
	invariant, cocycles := 0, 0
	eachSquare(func(a impl.Algebra, m impl.Matrix) {
		got, closed := impl.IsInvariant(a, m), impl.IsCocycle(a, m)
		if got != invariantBy(a, m) || closed != cocycleBy(a, m) {
			t.Error(a, m, got, closed)
		}
		if got {
			invariant++
		}
		if closed {
			cocycles++
		}
	})
	if invariant < 1000 || cocycles < 500 {
		t.Error(invariant, cocycles)
	}
}

// TestInvariantFormsWithFlaws changes one number of forms that are invariant.
func TestInvariantFormsWithFlaws(t *testing.T) {
	r := newRandom(112)
	for _, a := range []impl.Algebra{sumOf(general(10007, 5), special(10007)), scrambled(r, general(7, 4)), scrambled(r, sumOf(special(3), special(3)))} {
		form := impl.KillingForm(a)
		if !impl.IsInvariant(a, form) {
			t.Error(a)
		}
		for range 40 {
			place := r.IntN(len(form.Data))
			old := form.Data[place]
			form.Data[place] = (old + 1 + r.IntN(a.P-1)) % a.P
			if got := impl.IsInvariant(a, form); got != invariantBy(a, form) {
				t.Error(a.Dim, place, got)
			}
			form.Data[place] = old
		}
	}
	// A single number off the diagonal is invariant only where both elements are no brackets.
	b := sumOf(heisenberg(5), withTerms(5, 25))
	for _, c := range []struct {
		i, j int
		want bool
	}{{0, 1, true}, {1, 0, true}, {0, 0, true}, {27, 3, true}, {3, 27, true}, {27, 27, true}, {2, 2, false}, {2, 27, false}, {27, 2, false}, {0, 2, false}, {2, 1, false}} {
		m := constant(5, 28, 28, 0)
		m.Data[c.i*28+c.j] = 3
		if got := impl.IsInvariant(b, m); got != c.want {
			t.Error(c, got)
		}
	}
}

func TestInvariantForms(t *testing.T) {
	eachUpToEight(113, func(r *rand.Rand, a impl.Algebra) {
		var equations [][]int
		forAll(a, func(i, j, k int) bool {
			v := make([]int, a.Dim*a.Dim)
			for l := range a.Dim {
				v[l*a.Dim+k] += tableEntry(a, i, j)[l]
				v[i*a.Dim+l] += a.P - tableEntry(a, j, k)[l]
			}
			equations = append(equations, residues(v, a.P))
			return true
		})
		mustSpace(t, "invariant forms", a, impl.InvariantForms(a), equations, invariantBy)
	})
}

func residues(v []int, p int) []int {
	for i, x := range v {
		v[i] = impl.Residue(x, p)
	}
	return v
}

func TestCountsOfInvariantForms(t *testing.T) {
	for _, p := range somePrimes {
		for n := range 9 {
			checkCount(t, "abelian", impl.InvariantForms(withTerms(p, n)), n*n)
		}
		checkCount(t, "dimension 3", impl.InvariantForms(heisenberg(p)), 4)
		checkCount(t, "affine", impl.InvariantForms(affine(p)), 1)
		checkCount(t, "dimension 9", impl.InvariantForms(general(p, 3)), 0)
		checkCount(t, "dimension 9", impl.InvariantForms(withTerms(p, 9)), 0)
		checkCount(t, "dimension 28", impl.InvariantForms(withTerms(p, 28)), 0)
	}
	for _, p := range []int{3, 5, 7, 10007} {
		checkCount(t, "trace 0", impl.InvariantForms(special(p)), 1)
		checkCount(t, "all", impl.InvariantForms(general(p, 2)), 2)
		checkCount(t, "two parts", impl.InvariantForms(sumOf(special(p), special(p))), 2)
	}
	checkCount(t, "dimension 8", impl.InvariantForms(traceless(5, 3)), 1)
	for _, a := range algebrasWithFlaws() {
		checkCount(t, "no algebra", impl.InvariantForms(a), 0)
	}
}

func checkCount(t *testing.T, what string, list [][]int, want int) {
	t.Helper()
	if len(list) != want {
		t.Errorf("%s: %d, not %d: %v", what, len(list), want, list)
	}
}

// TestOrthogonalsOfSmall asks for all elements; most of the forms are not symmetric.
func TestOrthogonalsOfSmall(t *testing.T) {
	eachListed(114, func(r *rand.Rand, l listed, spaces []impl.Matrix) {
		for _, s := range spaces {
			form := lowRank(r, l.P, l.Dim, l.Dim, r.IntN(4))
			got, ok := impl.OrthogonalOf(l.Algebra, form, s)
			if !ok || !spaceByDefinition(got) || got.P != l.P || got.Cols != l.Dim {
				t.Fatal(l.Algebra, form, s, got, ok)
			}
			set := l.set(got)
			for _, x := range l.elements {
				zero := true
				for i := range s.Rows {
					zero = zero && valueBy(form, x, row(s, i)) == 0
				}
				if set[text(x)] != zero {
					t.Error(l.Algebra, form, s, got, x)
				}
			}
		}
	})
}

func TestExamplesOfOrthogonals(t *testing.T) {
	a := special(7)
	e, borel := matrixOf(7, 1, 3, 0, 1, 0), matrixOf(7, 2, 3, 1, 0, 0, 0, 1, 0)
	m, ok := impl.OrthogonalOf(a, impl.KillingForm(a), e)
	mustMatrix(t, "of e", m, ok, borel)
	m, ok = impl.OrthogonalOf(a, impl.KillingForm(a), borel)
	mustMatrix(t, "of h and e", m, ok, e)
	// This form has the value x[0] y[1].
	form := matrixOf(7, 3, 3, 0, 1, 0, 0, 0, 0, 0, 0, 0)
	m, ok = impl.OrthogonalOf(a, form, e)
	mustMatrix(t, "of e", m, ok, matrixOf(7, 2, 3, 0, 1, 0, 0, 0, 1))
	m, ok = impl.OrthogonalOf(a, form, matrixOf(7, 1, 3, 1, 0, 0))
	mustMatrix(t, "of h", m, ok, impl.UnitMatrix(7, 3))
}

func TestLawsOfOrthogonals(t *testing.T) {
	eachAlgebra(115, func(r *rand.Rand, a impl.Algebra) {
		none, all := matrixOf(a.P, 0, a.Dim), impl.UnitMatrix(a.P, a.Dim)
		form := impl.KillingForm(a)
		m, ok := impl.OrthogonalOf(a, form, none)
		mustMatrix(t, "of none", m, ok, all)
		m, ok = impl.OrthogonalOf(a, form, all)
		mustMatrix(t, "of all", m, ok && impl.IsIdeal(a, m), impl.KernelOf(form))
		for _, s := range impl.DerivedSeries(a) {
			m, ok = impl.OrthogonalOf(a, form, s)
			if !ok || !impl.IsIdeal(a, m) {
				t.Error(a, s, m)
			}
		}
		regular := invertible(r, a.P, a.Dim)
		s := impl.SpanOf(randomMatrix(r, a.P, a.Dim/2, a.Dim))
		m, ok = impl.OrthogonalOf(a, regular, s)
		if !ok || m.Rows != a.Dim-s.Rows {
			t.Error(a, regular, s, m)
		}
		m, ok = impl.OrthogonalOf(a, impl.TransposeMatrix(regular), m)
		mustMatrix(t, "and back", m, ok, s)
	})
}

func TestFormsThatAreNone(t *testing.T) {
	a, line, form := withTerms(5, 3), matrixOf(5, 1, 3, 0, 0, 1), constant(5, 3, 3, 0)
	m, ok := impl.OrthogonalOf(a, form, line)
	mustMatrix(t, "of 0", m, ok, impl.UnitMatrix(5, 3))
	for _, bad := range noSquares() {
		if impl.IsInvariant(a, bad) {
			t.Error(bad)
		}
		m, ok = impl.OrthogonalOf(a, bad, line)
		mustFail(t, "form", m, ok)
	}
	for _, s := range noSubspaces() {
		m, ok = impl.OrthogonalOf(a, form, s)
		mustFail(t, "subspace", m, ok)
	}
	for _, bad := range algebrasWithFlaws() {
		zero := zeroFor(bad)
		if impl.IsInvariant(bad, zero) {
			t.Error(bad)
		}
		m, ok = impl.OrthogonalOf(bad, zero, matrixOf(zero.P, 0, zero.Cols))
		mustFail(t, "algebra", m, ok)
		mustFail(t, "algebra", impl.KillingForm(bad), false)
	}
}

// zeroFor is a matrix of zeros of the size of an algebra that is not valid, where there is one.
func zeroFor(bad impl.Algebra) impl.Matrix {
	if bad.Dim < 0 || bad.Dim > 40 {
		return impl.Matrix{P: bad.P}
	}
	return constant(bad.P, bad.Dim, bad.Dim, 0)
}
