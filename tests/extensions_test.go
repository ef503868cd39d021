package tests

import (
	"math/rand/v2"
	"slices"
	"testing"

	"loop.example/g03109/impl"
)

// widened has the brackets of a, and for its last basis element, which is new, those that last and part say: [last, i] = last(i), and part(i, j) times the new one in [i, j].
func widened(a impl.Algebra, last func(i int) []int, part func(i, j int) int) impl.Algebra {
	n := a.Dim
	b := withTerms(a.P, n+1)
	at := func(i, j int) []int { return tableEntry(b, i, j) }
	for i := range n {
		for j := range n {
			copy(at(i, j), tableEntry(a, i, j))
			at(i, j)[n] = part(i, j)
		}
		for k, x := range last(i) {
			at(n, i)[k] = x
			at(i, n)[k] = (a.P - x) % a.P
		}
	}
	return b
}

func semidirectBy(a impl.Algebra, d impl.Matrix) impl.Algebra {
	return widened(a, func(i int) []int { return row(d, i) }, func(i, j int) int { return 0 })
}

func extendedBy(a impl.Algebra, form impl.Matrix) impl.Algebra {
	return widened(a, func(i int) []int { return nil }, func(i, j int) int { return at(form, i, j) })
}

func TestExtensionsOfSmall(t *testing.T) {
	made := map[bool]int{}
	eachSquare(func(a impl.Algebra, m impl.Matrix) {
		checkSemidirect(t, a, m, derivationBy(a, m))
		checkExtension(t, a, m, cocycleBy(a, m))
		made[cocycleBy(a, m)]++
	})
	if made[true] < 500 || made[false] < 1000 {
		t.Error(made)
	}
}

func checkSemidirect(t *testing.T, a impl.Algebra, d impl.Matrix, can bool) {
	t.Helper()
	b, ok := impl.SemidirectBy(a, d)
	if !can {
		mustFail(t, "semidirect", b, ok)
		return
	}
	mustAlgebra(t, "semidirect", b, ok && validAlgebra(b), semidirectBy(a, d))
}

func checkExtension(t *testing.T, a impl.Algebra, form impl.Matrix, can bool) {
	t.Helper()
	b, ok := impl.ExtendBy(a, form)
	if !can {
		mustFail(t, "extension", b, ok)
		return
	}
	mustAlgebra(t, "extension", b, ok && validAlgebra(b), extendedBy(a, form))
}

func TestExamplesOfExtensions(t *testing.T) {
	for _, p := range somePrimes {
		b, ok := impl.SemidirectBy(algebraOf(p, 0), matrixOf(p, 0, 0))
		mustAlgebra(t, "of nothing", b, ok, algebraOf(p, 1, 0))
		b, ok = impl.ExtendBy(algebraOf(p, 0), matrixOf(p, 0, 0))
		mustAlgebra(t, "of nothing", b, ok, algebraOf(p, 1, 0))
		b, ok = impl.SemidirectBy(algebraOf(p, 1, 0), matrixOf(p, 1, 1, 1))
		mustAlgebra(t, "affine", b, ok, withTerms(p, 2, term{0, 1, 0, -1}))
		b, ok = impl.SemidirectBy(withTerms(p, 3), matrixOf(p, 3, 3, 0, 1, 0, 0, 0, 1, 0, 0, 0))
		mustAlgebra(t, "chain", b, ok, withTerms(p, 4, term{3, 0, 1, 1}, term{3, 1, 2, 1}))
		b, ok = impl.ExtendBy(withTerms(p, 2), matrixOf(p, 2, 2, 0, 1, p-1, 0))
		mustAlgebra(t, "dimension 3", b, ok, heisenberg(p))
		b, ok = impl.ExtendBy(heisenberg(p), matrixOf(p, 3, 3, 0, 0, 1, 0, 0, 0, p-1, 0, 0))
		mustAlgebra(t, "chain", b, ok, chain(p, 4))
		b, ok = impl.SemidirectBy(heisenberg(p), matrixOf(p, 3, 3, 1, 0, 0, 0, 0, 0, 0, 0, 1))
		mustAlgebra(t, "degrees", b, ok, withTerms(p, 4, term{0, 1, 2, 1}, term{3, 0, 0, 1}, term{3, 2, 2, 1}))
	}
}

// TestLawsOfExtensions takes the algebra back out of what was made of it.
func TestLawsOfExtensions(t *testing.T) {
	eachAlgebra(130, func(r *rand.Rand, a impl.Algebra) {
		d, form := adjointBy(a, randomVector(r, a.P, a.Dim)), coboundaryBy(a, randomVector(r, a.P, a.Dim))
		if !impl.IsDerivation(a, d) || !impl.IsCocycle(a, form) {
			t.Error(a, d, form)
		}
		b, ok := impl.SemidirectBy(a, d)
		c, fine := impl.ExtendBy(a, form)
		if a.Dim == 28 {
			mustFail(t, "semidirect", b, ok)
			mustFail(t, "extension", c, fine)
			return
		}
		if !ok || !fine || !impl.AlgebraOk(b) || !impl.AlgebraOk(c) || b.Dim != a.Dim+1 || c.Dim != a.Dim+1 {
			t.Fatal(a, d, form, b, c)
		}
		others := unitRows(a.P, a.Dim+1, upTo(a.Dim)...)
		sub, ok := impl.SubTable(b, others)
		mustAlgebra(t, "sub", sub, ok && impl.IsIdeal(b, others), a)
		last := unitRows(a.P, a.Dim+1, a.Dim)
		q, ok := impl.QuotientTable(c, last)
		mustAlgebra(t, "quotient", q, ok && impl.IsSubspace(last, impl.CentreOf(c)), a)
		// The new element less x takes all others to 0, since d is the adjoint matrix of x.
		if centre := impl.CentreOf(b); centre.Rows != impl.CentreOf(a).Rows+1 {
			t.Error(a, d, centre)
		}
	})
}

func TestExtensionsAtTheLimit(t *testing.T) {
	r := newRandom(131)
	for _, a := range []impl.Algebra{withTerms(2, 27), withTerms(10007, 27), sumOf(general(10007, 5), affine(10007)), sumOf(upperTable(3, 7, 1), chain(3, 6))} {
		if a.Dim != 27 {
			t.Fatal(a.Dim)
		}
		checkSemidirect(t, a, adjointBy(a, randomVector(r, a.P, 27)), true)
		checkExtension(t, a, coboundaryBy(a, randomVector(r, a.P, 27)), true)
	}
	abelian := withTerms(7, 27)
	checkSemidirect(t, abelian, randomMatrix(r, 7, 27, 27), true)
	form := constant(7, 27, 27, 0)
	for i := range 27 {
		for j := range i {
			x := r.IntN(7)
			form.Data[i*27+j], form.Data[j*27+i] = x, (7-x)%7
		}
	}
	checkExtension(t, abelian, form, true)
	for _, a := range []impl.Algebra{withTerms(7, 28), sumOf(general(7, 5), special(7))} {
		zero := constant(7, 28, 28, 0)
		if !impl.IsDerivation(a, zero) || !impl.IsCocycle(a, zero) {
			t.Error(a.Dim)
		}
		checkSemidirect(t, a, zero, false)
		checkExtension(t, a, zero, false)
	}
}

// TestAlternatingForms tries all forms that are opposite in the two orders, for algebras of dimension 4.
func TestAlternatingForms(t *testing.T) {
	r := newRandom(132)
	closed, open := 0, 0
	for _, a := range []impl.Algebra{general(3, 2), chain(3, 4), sumOf(affine(3), affine(3)), sumOf(heisenberg(3), withTerms(3, 1)), sumOf(affine(3), withTerms(3, 2)), sumOf(special(3), withTerms(3, 1))} {
		for _, b := range []impl.Algebra{a, scrambled(r, a)} {
			for _, numbers := range allVectors(3, 6) {
				form := alternatingForm(3, 4, numbers)
				want := cocycleBy(b, form)
				if got := impl.IsCocycle(b, form); got != want {
					t.Error(b, form, got)
				}
				checkExtension(t, b, form, want)
				if want {
					closed++
				} else {
					open++
				}
			}
		}
	}
	if closed < 300 || open < 300 {
		t.Error(closed, open)
	}
}

// alternatingForm has these numbers for i < j in order, and their negatives.
func alternatingForm(p int, n int, numbers []int) impl.Matrix {
	m := constant(p, n, n, 0)
	for i := range n {
		for j := i + 1; j < n; j++ {
			m.Data[i*n+j], m.Data[j*n+i] = numbers[0], (p-numbers[0])%p
			numbers = numbers[1:]
		}
	}
	return m
}

// TestCocyclesWithOneFlaw has one reason at a time.
func TestCocyclesWithOneFlaw(t *testing.T) {
	for _, c := range []struct {
		what string
		a    impl.Algebra
		form impl.Matrix
		want bool
	}{
		{"no flaw", withTerms(5, 2), matrixOf(5, 2, 2, 0, 2, 3, 0), true},
		{"no flaw modulo 2", withTerms(2, 2), matrixOf(2, 2, 2, 0, 1, 1, 0), true},
		{"an element with itself", withTerms(2, 2), matrixOf(2, 2, 2, 1, 0, 0, 0), false},
		{"an element with itself", withTerms(2, 2), matrixOf(2, 2, 2, 0, 1, 1, 1), false},
		{"an element with itself", withTerms(2, 1), matrixOf(2, 1, 1, 1), false},
		{"an element with itself", withTerms(5, 2), matrixOf(5, 2, 2, 0, 2, 3, 1), false},
		{"two orders", withTerms(5, 2), matrixOf(5, 2, 2, 0, 2, 2, 0), false},
		{"two orders", withTerms(5, 2), matrixOf(5, 2, 2, 0, 2, 0, 0), false},
		{"two orders", withTerms(2, 2), matrixOf(2, 2, 2, 0, 0, 1, 0), false},
		{"two orders", withTerms(5, 3), matrixOf(5, 3, 3, 0, 1, 0, 4, 0, 1, 0, 1, 0), false},
		{"three elements", sumOf(affine(5), withTerms(5, 1)), matrixOf(5, 3, 3, 0, 0, 0, 0, 0, 1, 0, 4, 0), false},
		{"three elements", sumOf(affine(2), withTerms(2, 1)), matrixOf(2, 3, 3, 0, 0, 0, 0, 0, 1, 0, 1, 0), false},
		{"three elements that are two", sumOf(affine(5), withTerms(5, 1)), matrixOf(5, 3, 3, 0, 2, 3, 3, 0, 0, 2, 0, 0), true},
		{"the last three", sumOf(withTerms(5, 25), affine(5), withTerms(5, 1)), single(28, 26, 27), false},
		{"others", sumOf(withTerms(5, 25), affine(5), withTerms(5, 1)), single(28, 25, 27), true},
		{"the first and last", sumOf(affine(5), withTerms(5, 26)), single(28, 1, 27), false},
		{"others", sumOf(affine(5), withTerms(5, 26)), single(28, 0, 27), true},
	} {
		if got := impl.IsCocycle(c.a, c.form); got != c.want || got != cocycleBy(c.a, c.form) {
			t.Error(c.what, c.a.Dim, got)
		}
		checkExtension(t, c.a, c.form, c.want && c.a.Dim < 28)
	}
}

// single has 1 and -1 for two basis elements, modulo 5.
func single(n int, i int, j int) impl.Matrix {
	m := constant(5, n, n, 0)
	m.Data[i*n+j], m.Data[j*n+i] = 1, 4
	return m
}

func TestExtensionsThatFail(t *testing.T) {
	a := withTerms(5, 3)
	checkSemidirect(t, a, constant(5, 3, 3, 0), true)
	checkExtension(t, a, constant(5, 3, 3, 0), true)
	checkSemidirect(t, heisenberg(5), impl.UnitMatrix(5, 3), false)
	checkSemidirect(t, special(5), constant(5, 3, 3, 1), false)
	checkSemidirect(t, affine(5), matrixOf(5, 2, 2, 1, 0, 0, 0), false)
	for _, m := range noSquares() {
		if impl.IsCocycle(a, m) {
			t.Error(m)
		}
		checkSemidirect(t, a, m, false)
		checkExtension(t, a, m, false)
	}
	for _, bad := range algebrasWithFlaws() {
		zero := zeroFor(bad)
		if impl.IsCocycle(bad, zero) {
			t.Error(bad)
		}
		checkSemidirect(t, bad, zero, false)
		checkExtension(t, bad, zero, false)
	}
}

// TestSeriesOfExtensions says what becomes of the class of an algebra.
func TestSeriesOfExtensions(t *testing.T) {
	for _, p := range []int{2, 3, 10007} {
		a := chain(p, 3)
		for n := 3; n < 12; n++ {
			// The bracket of 0 and the last element is the new one.
			form := constant(p, n, n, 0)
			form.Data[n-1], form.Data[(n-1)*n] = 1, p-1
			b, ok := impl.ExtendBy(a, form)
			mustAlgebra(t, "chain", b, ok, chain(p, n+1))
			if impl.ClassOf(b) != n || !slices.Equal(rowCounts(impl.DerivedSeries(b)), []int{n + 1, n - 1, 0}) {
				t.Error(p, n, impl.ClassOf(b))
			}
			a = b
			degrees := constant(p, n+1, n+1, 0)
			for i := 1; i <= n; i++ {
				degrees.Data[i*(n+1)+i] = 1
			}
			c, ok := impl.SemidirectBy(b, degrees)
			if !ok || !impl.IsSolvable(c) || impl.ClassOf(c) != -1 || impl.IsPerfect(c) {
				t.Error(p, n, c)
			}
		}
	}
}
