package tests

import (
	"math/rand/v2"
	"slices"
	"testing"

	"loop.example/g03109/impl"
)

// listed has an algebra so small that its elements can be listed.
type listed struct {
	impl.Algebra
	elements [][]int
}

func (l listed) set(s impl.Matrix) map[string]bool { return sumsOfRows(s) }

// eachListed calls f for all algebras of dimension 3 modulo 2, and for others, with spaces of their elements.
func eachListed(seed uint64, f func(r *rand.Rand, l listed, spaces []impl.Matrix)) {
	r := newRandom(seed)
	var algebras []impl.Algebra
	for _, a := range alternatingTables(2, 3) {
		if validAlgebra(a) {
			algebras = append(algebras, a)
		}
	}
	for _, p := range []int{2, 3, 5} {
		for _, a := range fewAlgebras(p) {
			if p < 5 || a.Dim < 4 {
				algebras = append(algebras, a, scrambled(r, a))
			}
		}
	}
	for _, a := range algebras {
		f(r, listed{a, allVectors(a.P, a.Dim)}, spacesOf(r, a.P, a.Dim))
	}
}

// into says by the definition whether all brackets of an element of s and one of t are in the set.
func (l listed) into(s impl.Matrix, t impl.Matrix, set map[string]bool) bool {
	for i := range s.Rows {
		for j := range t.Rows {
			if !set[text(bracketBy(l.Algebra, row(s, i), row(t, j)))] {
				return false
			}
		}
	}
	return true
}

func (l listed) all() impl.Matrix { return impl.UnitMatrix(l.P, l.Dim) }

func TestIdealsAndSubalgebrasOfSmall(t *testing.T) {
	eachListed(40, func(r *rand.Rand, l listed, spaces []impl.Matrix) {
		for _, s := range spaces {
			set := l.set(s)
			if got := impl.IsSubalgebra(l.Algebra, s); got != l.into(s, s, set) {
				t.Error(l.Algebra, s, got)
			}
			if got := impl.IsIdeal(l.Algebra, s); got != l.into(l.all(), s, set) {
				t.Error(l.Algebra, s, got)
			}
		}
	})
}

func TestProductSpacesOfSmall(t *testing.T) {
	eachListed(41, func(r *rand.Rand, l listed, spaces []impl.Matrix) {
		for _, s := range spaces {
			u := spaces[r.IntN(len(spaces))]
			m, ok := impl.ProductSpace(l.Algebra, s, u)
			other, fine := impl.ProductSpace(l.Algebra, u, s)
			brackets := matrixOf(l.P, 0, l.Dim)
			for i := range s.Rows {
				for j := range u.Rows {
					brackets.Data = append(brackets.Data, bracketBy(l.Algebra, row(s, i), row(u, j))...)
					brackets.Rows++
				}
			}
			mustMatrix(t, "product", m, ok && impl.SpaceOk(m), impl.SpanOf(brackets))
			mustMatrix(t, "in the other order", other, fine, m)
		}
	})
}

// TestLeastOfSmall tries all subalgebras and ideals of algebras whose spaces are all listed.
func TestLeastOfSmall(t *testing.T) {
	eachListed(42, func(r *rand.Rand, l listed, spaces []impl.Matrix) {
		for range 4 {
			m := randomMatrix(r, l.P, r.IntN(3), l.Dim)
			sub, ok := impl.SubalgebraBy(l.Algebra, m)
			ideal, fine := impl.IdealBy(l.Algebra, m)
			if !ok || !fine || !impl.IsSubalgebra(l.Algebra, sub) || !impl.IsIdeal(l.Algebra, ideal) {
				t.Fatal(l.Algebra, m, sub, ideal)
			}
			rows := impl.SpanOf(m)
			if !impl.IsSubspace(rows, sub) || !impl.IsSubspace(rows, ideal) || !impl.IsSubspace(sub, ideal) {
				t.Error(l.Algebra, m, sub, ideal)
			}
			for _, s := range append(spaces, l.closures(rows)...) {
				if !impl.IsSubspace(rows, s) {
					continue
				}
				if l.into(s, s, l.set(s)) && !impl.IsSubspace(sub, s) || l.into(l.all(), s, l.set(s)) && !impl.IsSubspace(ideal, s) {
					t.Error(l.Algebra, m, sub, ideal, s)
				}
			}
		}
	})
}

// closures returns the least subalgebra and the least ideal, found by taking in one bracket after the other.
func (l listed) closures(rows impl.Matrix) []impl.Matrix {
	var list []impl.Matrix
	for _, whole := range []bool{false, true} {
		s := rows
		for again := true; again; {
			again = false
			factors := s
			if whole {
				factors = l.all()
			}
			for i := 0; i < factors.Rows && !again; i++ {
				for j := 0; j < s.Rows && !again; j++ {
					v := bracketBy(l.Algebra, row(factors, i), row(s, j))
					if _, in := impl.CoordinatesIn(s, v); !in {
						s, _ = impl.SumSpaces(s, impl.SpanOf(matrixOf(l.P, 1, l.Dim, v...)))
						again = true
					}
				}
			}
		}
		list = append(list, s)
	}
	return list
}

func TestCentralizersAndNormalizersOfSmall(t *testing.T) {
	eachListed(43, func(r *rand.Rand, l listed, spaces []impl.Matrix) {
		zero := l.set(matrixOf(l.P, 0, l.Dim))
		for _, s := range spaces {
			c, ok := impl.CentralizerOf(l.Algebra, s)
			n, fine := impl.NormalizerOf(l.Algebra, s)
			if !ok || !fine || !impl.SpaceOk(c) || !impl.SpaceOk(n) || c.P != l.P || c.Cols != l.Dim || n.P != l.P || n.Cols != l.Dim {
				t.Fatal(l.Algebra, s, c, n)
			}
			inC, inN, inS := l.set(c), l.set(n), l.set(s)
			for _, x := range l.elements {
				line := matrixOf(l.P, 1, l.Dim, x...)
				if inC[text(x)] != l.into(line, s, zero) || inN[text(x)] != l.into(line, s, inS) {
					t.Error(l.Algebra, s, c, n, x)
				}
			}
		}
		c, ok := impl.CentralizerOf(l.Algebra, l.all())
		mustMatrix(t, "centre", impl.CentreOf(l.Algebra), ok, c)
	})
}

func TestTablesOfSmall(t *testing.T) {
	subs, quotients := 0, 0
	eachListed(44, func(r *rand.Rand, l listed, spaces []impl.Matrix) {
		for _, s := range spaces {
			set := l.set(s)
			sub, ok := impl.SubTable(l.Algebra, s)
			if ok != l.into(s, s, set) {
				t.Error(l.Algebra, s, ok)
			}
			if ok {
				subs++
				l.checkSubTable(t, s, sub)
			} else {
				mustFail(t, "subalgebra", sub, ok)
			}
			q, ok := impl.QuotientTable(l.Algebra, s)
			if ok != l.into(l.all(), s, set) {
				t.Error(l.Algebra, s, ok)
			}
			if ok {
				quotients++
				l.checkQuotient(t, s, q)
			} else {
				mustFail(t, "quotient", q, ok)
			}
		}
	})
	if subs < 100 || quotients < 100 {
		t.Error(subs, quotients)
	}
}

func (l listed) checkSubTable(t *testing.T, s impl.Matrix, sub impl.Algebra) {
	t.Helper()
	if sub.P != l.P || sub.Dim != s.Rows || !validAlgebra(sub) {
		t.Fatal(l.Algebra, s, sub)
	}
	for i := range s.Rows {
		for j := range s.Rows {
			if !slices.Equal(combine(s, tableEntry(sub, i, j)), bracketBy(l.Algebra, row(s, i), row(s, j))) {
				t.Error(l.Algebra, s, sub)
			}
		}
	}
	if !impl.IsHomomorphism(sub, l.Algebra, s) {
		t.Error(l.Algebra, s, sub)
	}
}

// checkQuotient says that the map of each element to its class is a homomorphism which takes s to 0.
func (l listed) checkQuotient(t *testing.T, s impl.Matrix, q impl.Algebra) {
	t.Helper()
	var free []int
	for c := range l.Dim {
		if _, pivots := impl.ReduceMatrix(s); !slices.Contains(pivots, c) {
			free = append(free, c)
		}
	}
	if q.P != l.P || q.Dim != len(free) || !validAlgebra(q) {
		t.Fatal(l.Algebra, s, q)
	}
	set := l.set(s)
	for i, c := range free {
		for j, d := range free {
			difference := slices.Clone(tableEntry(l.Algebra, c, d))
			for k, n := range tableEntry(q, i, j) {
				difference[free[k]] = impl.Residue(difference[free[k]]-n, l.P)
			}
			if !set[text(difference)] {
				t.Error(l.Algebra, s, q)
			}
		}
	}
}

func TestExamplesOfSubspaces(t *testing.T) {
	a := special(7)
	e, borel := matrixOf(7, 1, 3, 0, 1, 0), matrixOf(7, 2, 3, 1, 0, 0, 0, 1, 0)
	m, ok := impl.ProductSpace(a, borel, borel)
	mustMatrix(t, "derived", m, ok, e)
	m, ok = impl.ProductSpace(a, e, e)
	mustMatrix(t, "a line with itself", m, ok, matrixOf(7, 0, 3))
	m, ok = impl.NormalizerOf(a, e)
	mustMatrix(t, "normalizer", m, ok, borel)
	m, ok = impl.NormalizerOf(a, borel)
	mustMatrix(t, "normalizer", m, ok, borel)
	m, ok = impl.CentralizerOf(a, e)
	mustMatrix(t, "centralizer", m, ok, e)
	m, ok = impl.SubalgebraBy(a, matrixOf(7, 2, 3, 0, 1, 0, 0, 0, 1))
	mustMatrix(t, "subalgebra", m, ok, impl.UnitMatrix(7, 3))
	m, ok = impl.SubalgebraBy(a, matrixOf(7, 2, 3, 3, 0, 0, 0, 2, 0))
	mustMatrix(t, "subalgebra", m, ok, borel)
	m, ok = impl.IdealBy(a, e)
	mustMatrix(t, "ideal", m, ok, impl.UnitMatrix(7, 3))
	mustMatrix(t, "centre", impl.CentreOf(a), true, matrixOf(7, 0, 3))
	mustMatrix(t, "centre modulo 2", impl.CentreOf(special(2)), true, matrixOf(2, 1, 3, 1, 0, 0))
	sub, ok := impl.SubTable(a, borel)
	mustAlgebra(t, "sub", sub, ok, withTerms(7, 2, term{0, 1, 1, 2}))
	q, ok := impl.QuotientTable(special(2), matrixOf(2, 1, 3, 1, 0, 0))
	mustAlgebra(t, "quotient", q, ok, withTerms(2, 2))
	// The classes of 0, 2 and 3 remain, and that of 1 is 4 times that of 3.
	b := withTerms(5, 4, term{0, 2, 1, 1}, term{0, 2, 3, 1})
	q, ok = impl.QuotientTable(b, matrixOf(5, 1, 4, 0, 1, 0, 1))
	mustAlgebra(t, "quotient", q, ok, withTerms(5, 3))
	b = withTerms(5, 4, term{0, 2, 1, 1}, term{0, 2, 3, 2})
	q, ok = impl.QuotientTable(b, matrixOf(5, 1, 4, 0, 1, 0, 3))
	mustAlgebra(t, "quotient", q, ok, withTerms(5, 3, term{0, 1, 2, 4}))
}

// TestSubspacesWithoutAndWithAll has the least and the greatest subspace of algebras of all sizes.
func TestSubspacesWithoutAndWithAll(t *testing.T) {
	eachAlgebra(45, func(r *rand.Rand, a impl.Algebra) {
		none, all := matrixOf(a.P, 0, a.Dim), impl.UnitMatrix(a.P, a.Dim)
		for _, s := range []impl.Matrix{none, all} {
			if !impl.IsSubalgebra(a, s) || !impl.IsIdeal(a, s) {
				t.Error(a, s)
			}
			m, ok := impl.NormalizerOf(a, s)
			mustMatrix(t, "normalizer", m, ok, all)
			m, ok = impl.SubalgebraBy(a, s)
			mustMatrix(t, "subalgebra", m, ok, s)
			m, ok = impl.IdealBy(a, s)
			mustMatrix(t, "ideal", m, ok, s)
			m, ok = impl.ProductSpace(a, none, s)
			mustMatrix(t, "product", m, ok, none)
		}
		m, ok := impl.CentralizerOf(a, none)
		mustMatrix(t, "centralizer", m, ok, all)
		m, ok = impl.CentralizerOf(a, all)
		mustMatrix(t, "centralizer", m, ok, impl.CentreOf(a))
		sub, ok := impl.SubTable(a, all)
		mustAlgebra(t, "all", sub, ok, a)
		sub, ok = impl.SubTable(a, none)
		mustAlgebra(t, "none", sub, ok, algebraOf(a.P, 0))
		q, ok := impl.QuotientTable(a, none)
		mustAlgebra(t, "by none", q, ok, a)
		q, ok = impl.QuotientTable(a, all)
		mustAlgebra(t, "by all", q, ok, algebraOf(a.P, 0))
	})
}

// moved returns a space in the basis whose inverse is back.
func moved(s impl.Matrix, back impl.Matrix) impl.Matrix { return impl.SpanOf(multiply(s, back)) }

// unitRows has the unit vectors with these indices.
func unitRows(p int, cols int, indices ...int) impl.Matrix {
	m := constant(p, len(indices), cols, 0)
	for i, c := range indices {
		m.Data[i*cols+c] = 1
	}
	return m
}

// TestSubspacesOfLarge has what is known of the 25 matrices with a single 1, three elements more that have no brackets, in a random basis of dimension 28.
func TestSubspacesOfLarge(t *testing.T) {
	const p = 10007
	r := newRandom(46)
	a, _ := impl.SumAlgebras(general(p, 5), withTerms(p, 3))
	m := invertible(r, p, 28)
	back, _ := impl.InverseMatrix(m)
	b, ok := impl.ChangeBasis(a, m)
	if !ok || !impl.AlgebraOk(b) {
		t.Fatal("no algebra in the other basis")
	}
	var upper, strict, diagonal []int
	for i := range 5 {
		diagonal = append(diagonal, 6*i)
		for j := i; j < 5; j++ {
			upper = append(upper, 5*i+j)
			if j > i {
				strict = append(strict, 5*i+j)
			}
		}
	}
	rest := []int{25, 26, 27}
	space := func(indices ...int) impl.Matrix { return moved(unitRows(p, 28, indices...), back) }
	borel := space(append(upper, rest...)...)
	got, ok := impl.NormalizerOf(b, space(upper...))
	mustMatrix(t, "normalizer of the upper ones", got, ok, borel)
	got, ok = impl.NormalizerOf(b, space(strict...))
	mustMatrix(t, "normalizer of the strictly upper ones", got, ok, borel)
	got, ok = impl.CentralizerOf(b, space(diagonal...))
	mustMatrix(t, "centralizer of the diagonal ones", got, ok, space(append(diagonal, rest...)...))
	got, ok = impl.ProductSpace(b, borel, borel)
	mustMatrix(t, "product of the upper ones", got, ok, space(strict...))
	if !impl.IsSubalgebra(b, borel) || impl.IsIdeal(b, borel) || impl.IsSubalgebra(b, space(append(strict, 20)...)) {
		t.Error("subalgebras")
	}
	checkLargeIdeals(t, b, space(1), space(1, 20), back)
}

// checkLargeIdeals knows that the one ideal with matrices whose trace is 0 has them all.
func checkLargeIdeals(t *testing.T, b impl.Algebra, one impl.Matrix, two impl.Matrix, back impl.Matrix) {
	t.Helper()
	unit := make([]int, 28)
	for i := range 5 {
		unit[6*i] = 1
	}
	centre := unitRows(b.P, 28, 25, 26, 27)
	centre.Data = append(unit, centre.Data...)
	centre.Rows++
	centre = moved(centre, back)
	mustMatrix(t, "centre", impl.CentreOf(b), true, centre)
	ideal, ok := impl.IdealBy(b, one)
	if !ok || ideal.Rows != 24 || !impl.IsIdeal(b, ideal) || !impl.IsSubspace(one, ideal) {
		t.Error(ideal, ok)
	}
	all := impl.UnitMatrix(b.P, 28)
	product, ok := impl.ProductSpace(b, all, all)
	mustMatrix(t, "products", product, ok, ideal)
	sub, ok := impl.SubalgebraBy(b, two)
	if !ok || !impl.IsSubalgebra(b, sub) || !impl.IsSubspace(two, sub) || impl.IsIdeal(b, sub) {
		t.Error(sub, ok)
	}
	q, ok := impl.QuotientTable(b, ideal)
	mustAlgebra(t, "quotient by the trace 0", q, ok, withTerms(b.P, 4))
	q, ok = impl.QuotientTable(b, centre)
	if !ok || q.Dim != 24 || !impl.AlgebraOk(q) || impl.CentreOf(q).Rows != 0 {
		t.Error(q.Dim, ok)
	}
	table, ok := impl.SubTable(b, ideal)
	if !ok || table.Dim != 24 || !impl.AlgebraOk(table) || impl.CentreOf(table).Rows != 0 || !impl.IsHomomorphism(table, b, ideal) {
		t.Error(table.Dim, ok)
	}
}

// noSubspaces are no subspaces of an algebra of dimension 3 modulo 5.
func noSubspaces() []impl.Matrix {
	return append(invalidMatrices(),
		matrixOf(5, 1, 3, 0, 0, 0), matrixOf(5, 1, 3, 2, 0, 0), matrixOf(5, 2, 3, 0, 1, 0, 1, 0, 0), matrixOf(5, 2, 3, 1, 1, 0, 0, 1, 0), matrixOf(5, 2, 3, 1, 0, 0, 0, 0, 0), matrixOf(5, 2, 3, 1, 0, 0, 1, 0, 0),
		matrixOf(7, 1, 3, 1, 0, 0), matrixOf(7, 0, 3), matrixOf(5, 0, 2), matrixOf(5, 0, 4), matrixOf(5, 0, 0), matrixOf(5, 1, 2, 1, 0), matrixOf(5, 1, 4, 1, 0, 0, 0), impl.UnitMatrix(5, 2), impl.UnitMatrix(5, 4), impl.UnitMatrix(7, 3))
}

func TestSubspacesThatAreNone(t *testing.T) {
	line := matrixOf(5, 1, 3, 0, 0, 1)
	for _, a := range []impl.Algebra{heisenberg(5), withTerms(5, 3)} {
		for _, s := range noSubspaces() {
			if impl.IsSubalgebra(a, s) || impl.IsIdeal(a, s) {
				t.Error(s)
			}
			for _, run := range []func() (impl.Matrix, bool){
				func() (impl.Matrix, bool) { return impl.ProductSpace(a, s, line) },
				func() (impl.Matrix, bool) { return impl.ProductSpace(a, line, s) },
				func() (impl.Matrix, bool) { return impl.ProductSpace(a, s, s) },
				func() (impl.Matrix, bool) { return impl.CentralizerOf(a, s) },
				func() (impl.Matrix, bool) { return impl.NormalizerOf(a, s) },
			} {
				m, ok := run()
				mustFail(t, "subspace", m, ok)
			}
			b, ok := impl.SubTable(a, s)
			mustFail(t, "subspace", b, ok)
			b, ok = impl.QuotientTable(a, s)
			mustFail(t, "subspace", b, ok)
		}
	}
}

// TestRowsThatGenerate says that SubalgebraBy and IdealBy take any valid matrix, of up to 40 rows.
func TestRowsThatGenerate(t *testing.T) {
	a := heisenberg(5)
	for _, c := range []struct{ m, sub, ideal impl.Matrix }{
		{matrixOf(5, 1, 3, 0, 0, 0), matrixOf(5, 0, 3), matrixOf(5, 0, 3)},
		{matrixOf(5, 1, 3, 3, 0, 0), matrixOf(5, 1, 3, 1, 0, 0), matrixOf(5, 2, 3, 1, 0, 0, 0, 0, 1)},
		{matrixOf(5, 2, 3, 0, 2, 0, 3, 0, 0), impl.UnitMatrix(5, 3), impl.UnitMatrix(5, 3)},
		{constant(5, 40, 3, 2), matrixOf(5, 1, 3, 1, 1, 1), matrixOf(5, 2, 3, 1, 1, 0, 0, 0, 1)},
		{constant(5, 40, 3, 0), matrixOf(5, 0, 3), matrixOf(5, 0, 3)},
	} {
		m, ok := impl.SubalgebraBy(a, c.m)
		mustMatrix(t, "subalgebra", m, ok, c.sub)
		m, ok = impl.IdealBy(a, c.m)
		mustMatrix(t, "ideal", m, ok, c.ideal)
	}
	for _, rows := range append(invalidMatrices(), constant(5, 41, 3, 0), matrixOf(7, 1, 3, 1, 0, 0), matrixOf(5, 1, 2, 1, 0), matrixOf(5, 1, 4, 1, 0, 0, 0), matrixOf(7, 0, 3), matrixOf(5, 0, 2), matrixOf(5, 0, 0)) {
		m, ok := impl.SubalgebraBy(a, rows)
		mustFail(t, "subalgebra", m, ok)
		m, ok = impl.IdealBy(a, rows)
		mustFail(t, "ideal", m, ok)
	}
}
