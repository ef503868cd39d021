package tests

import (
	"math/rand/v2"
	"slices"
	"testing"

	"loop.example/g03109/impl"
)

func rowCounts(list []impl.Matrix) []int {
	var counts []int
	for _, s := range list {
		counts = append(counts, s.Rows)
	}
	return counts
}

// checkCounts says how many rows the spaces of the three series have, and what follows from that.
func checkCounts(t *testing.T, a impl.Algebra, derived []int, lower []int, upper []int) {
	t.Helper()
	if !slices.Equal(rowCounts(impl.DerivedSeries(a)), derived) || !slices.Equal(rowCounts(impl.LowerSeries(a)), lower) || !slices.Equal(rowCounts(impl.UpperSeries(a)), upper) {
		t.Error(a.P, a.Dim, impl.DerivedSeries(a), impl.LowerSeries(a), impl.UpperSeries(a))
	}
	class := -1
	if lower[len(lower)-1] == 0 {
		class = len(lower) - 1
	}
	if impl.IsSolvable(a) != (derived[len(derived)-1] == 0) || impl.ClassOf(a) != class || impl.IsPerfect(a) != (len(derived) == 1) {
		t.Error(a.P, a.Dim, impl.IsSolvable(a), impl.ClassOf(a), impl.IsPerfect(a))
	}
}

func TestExamplesOfSeries(t *testing.T) {
	r := newRandom(100)
	for _, p := range somePrimes {
		for _, c := range []struct {
			a                     impl.Algebra
			derived, lower, upper []int
		}{
			{algebraOf(p, 0), []int{0}, []int{0}, []int{0}},
			{algebraOf(p, 1, 0), []int{1, 0}, []int{1, 0}, []int{0, 1}},
			{withTerms(p, 28), []int{28, 0}, []int{28, 0}, []int{0, 28}},
			{affine(p), []int{2, 1, 0}, []int{2, 1}, []int{0}},
			{heisenberg(p), []int{3, 1, 0}, []int{3, 1, 0}, []int{0, 1, 3}},
			{chain(p, 6), []int{6, 4, 0}, []int{6, 4, 3, 2, 1, 0}, []int{0, 1, 2, 3, 4, 6}},
			{sumOf(affine(p), heisenberg(p)), []int{5, 2, 0}, []int{5, 2, 1}, []int{0, 1, 3}},
			{upperTable(p, 8, 1), []int{28, 21, 10, 0}, []int{28, 21, 15, 10, 6, 3, 1, 0}, []int{0, 1, 3, 6, 10, 15, 21, 28}},
			{upperTable(p, 7, 0), []int{28, 21, 15, 6, 0}, []int{28, 21}, []int{0, 1}},
		} {
			checkCounts(t, c.a, c.derived, c.lower, c.upper)
			checkCounts(t, scrambled(r, c.a), c.derived, c.lower, c.upper)
		}
	}
	checkCounts(t, special(2), []int{3, 1, 0}, []int{3, 1, 0}, []int{0, 1, 3})
	for _, p := range somePrimes[1:] {
		checkCounts(t, special(p), []int{3}, []int{3}, []int{0})
		checkCounts(t, general(p, 2), []int{4, 3}, []int{4, 3}, []int{0, 1})
		checkCounts(t, sumOf(special(p), heisenberg(p)), []int{6, 4, 3}, []int{6, 4, 3}, []int{0, 1, 3})
		checkCounts(t, sumOf(special(p), special(p)), []int{6}, []int{6}, []int{0})
	}
	// The unit matrix has the trace 0 modulo 5: the perfect algebra has a centre.
	checkCounts(t, traceless(5, 5), []int{24}, []int{24}, []int{0, 1})
	checkCounts(t, general(5, 5), []int{25, 24}, []int{25, 24}, []int{0, 1})
}

func TestSpacesOfSeries(t *testing.T) {
	const p = 7
	mustList(t, impl.DerivedSeries(heisenberg(p)), impl.UnitMatrix(p, 3), matrixOf(p, 1, 3, 0, 0, 1), matrixOf(p, 0, 3))
	mustList(t, impl.LowerSeries(chain(p, 4)), impl.UnitMatrix(p, 4), matrixOf(p, 2, 4, 0, 0, 1, 0, 0, 0, 0, 1), matrixOf(p, 1, 4, 0, 0, 0, 1), matrixOf(p, 0, 4))
	mustList(t, impl.UpperSeries(chain(p, 4)), matrixOf(p, 0, 4), matrixOf(p, 1, 4, 0, 0, 0, 1), matrixOf(p, 2, 4, 0, 0, 1, 0, 0, 0, 0, 1), impl.UnitMatrix(p, 4))
	mustList(t, impl.LowerSeries(affine(p)), impl.UnitMatrix(p, 2), matrixOf(p, 1, 2, 0, 1))
	mustList(t, impl.DerivedSeries(algebraOf(p, 0)), matrixOf(p, 0, 0))
	mustList(t, impl.LowerSeries(algebraOf(p, 0)), matrixOf(p, 0, 0))
	mustList(t, impl.UpperSeries(algebraOf(p, 0)), matrixOf(p, 0, 0))
	mustList(t, impl.UpperSeries(special(p)), matrixOf(p, 0, 3))
}

func mustList(t *testing.T, got []impl.Matrix, want ...impl.Matrix) {
	t.Helper()
	if !slices.EqualFunc(got, want, sameMatrix) {
		t.Errorf("%v, not %v", got, want)
	}
}

// TestSeriesOfSmall finds each next space among the elements.
func TestSeriesOfSmall(t *testing.T) {
	eachListed(101, func(r *rand.Rand, l listed, spaces []impl.Matrix) {
		derived, lower, upper := impl.DerivedSeries(l.Algebra), impl.LowerSeries(l.Algebra), impl.UpperSeries(l.Algebra)
		for _, list := range [][]impl.Matrix{derived, lower, upper} {
			for _, s := range list {
				if !spaceByDefinition(s) || s.P != l.P || s.Cols != l.Dim {
					t.Fatal(l.Algebra, list)
				}
			}
		}
		mustSeries(t, l, derived, l.all(), func(last impl.Matrix) impl.Matrix { return l.brackets(last, last) })
		mustSeries(t, l, lower, l.all(), func(last impl.Matrix) impl.Matrix { return l.brackets(l.all(), last) })
		mustSeries(t, l, upper, matrixOf(l.P, 0, l.Dim), func(last impl.Matrix) impl.Matrix {
			return l.taken(l.all(), l.set(last))
		})
	})
}

// mustSeries compares with the series that next makes, up to the first space that is equal to the one before it.
func mustSeries(t *testing.T, l listed, got []impl.Matrix, first impl.Matrix, next func(last impl.Matrix) impl.Matrix) {
	t.Helper()
	want := []impl.Matrix{first}
	for s := next(first); !sameMatrix(s, want[len(want)-1]); s = next(s) {
		want = append(want, s)
	}
	if !slices.EqualFunc(got, want, sameMatrix) {
		t.Errorf("%v: %v, not %v", l.Algebra, got, want)
	}
}

// brackets returns the space of all sums of brackets of a row of s and one of t.
func (l listed) brackets(s impl.Matrix, t impl.Matrix) impl.Matrix {
	sum := matrixOf(l.P, 0, l.Dim)
	for i := range s.Rows {
		for j := range t.Rows {
			v := matrixOf(l.P, 1, l.Dim, bracketBy(l.Algebra, row(s, i), row(t, j))...)
			sum, _ = impl.SumSpaces(sum, impl.SpanOf(v))
		}
	}
	return sum
}

// taken returns the space of the elements whose brackets with the rows of s are in the set.
func (l listed) taken(s impl.Matrix, set map[string]bool) impl.Matrix {
	sum := matrixOf(l.P, 0, l.Dim)
	for _, x := range l.elements {
		if line := matrixOf(l.P, 1, l.Dim, x...); l.into(line, s, set) {
			sum, _ = impl.SumSpaces(sum, impl.SpanOf(line))
		}
	}
	return sum
}

// TestSeriesInAnotherBasis says that the spaces go along with the basis, for algebras of all sizes.
func TestSeriesInAnotherBasis(t *testing.T) {
	r := newRandom(102)
	eachAlgebra(103, func(_ *rand.Rand, a impl.Algebra) {
		m := invertible(r, a.P, a.Dim)
		back, _ := impl.InverseMatrix(m)
		b := rebased(a, m, back)
		for _, series := range []func(impl.Algebra) []impl.Matrix{impl.DerivedSeries, impl.LowerSeries, impl.UpperSeries} {
			var want []impl.Matrix
			for _, s := range series(a) {
				want = append(want, moved(s, back))
			}
			mustList(t, series(b), want...)
		}
		if impl.IsSolvable(a) != impl.IsSolvable(b) || impl.ClassOf(a) != impl.ClassOf(b) || impl.IsPerfect(a) != impl.IsPerfect(b) {
			t.Error(a, b)
		}
	})
}

func TestLawsOfSeries(t *testing.T) {
	eachAlgebra(104, func(r *rand.Rand, a impl.Algebra) {
		derived, lower, upper := impl.DerivedSeries(a), impl.LowerSeries(a), impl.UpperSeries(a)
		for _, s := range slices.Concat(derived, lower, upper) {
			if !impl.IsIdeal(a, s) {
				t.Error(a, s)
			}
		}
		all := impl.UnitMatrix(a.P, a.Dim)
		product, _ := impl.ProductSpace(a, all, all)
		if impl.IsPerfect(a) != (product.Rows == a.Dim) || len(upper) > 1 && !sameMatrix(upper[1], impl.CentreOf(a)) || len(upper) == 1 && impl.CentreOf(a).Rows != 0 {
			t.Error(a, product, upper)
		}
		nilpotent := upper[len(upper)-1].Rows == a.Dim
		if class := impl.ClassOf(a); nilpotent != (class >= 0) || nilpotent && class != len(upper)-1 || nilpotent && !impl.IsSolvable(a) {
			t.Error(a, class, upper)
		}
		last := derived[len(derived)-1]
		if sub, ok := impl.SubTable(a, last); !ok || !impl.IsPerfect(sub) {
			t.Error(a, last)
		}
	})
}

// TestSeriesOfSums has series of different lengths: the shorter one stays at its end.
func TestSeriesOfSums(t *testing.T) {
	for _, p := range []int{2, 3, 10007} {
		for _, a := range append(fewAlgebras(p), chain(p, 6), traceless(p, 3)) {
			for _, b := range fewAlgebras(p) {
				sum := sumOf(a, b)
				for _, series := range []func(impl.Algebra) []impl.Matrix{impl.DerivedSeries, impl.LowerSeries, impl.UpperSeries} {
					left, right := rowCounts(series(a)), rowCounts(series(b))
					var want []int
					for i := range max(len(left), len(right)) {
						want = append(want, left[min(i, len(left)-1)]+right[min(i, len(right)-1)])
					}
					if got := rowCounts(series(sum)); !slices.Equal(got, want) {
						t.Error(a, b, got, want)
					}
				}
				if impl.IsSolvable(sum) != (impl.IsSolvable(a) && impl.IsSolvable(b)) || impl.IsPerfect(sum) != (impl.IsPerfect(a) && impl.IsPerfect(b)) {
					t.Error(a, b)
				}
				class := max(impl.ClassOf(a), impl.ClassOf(b))
				if min(impl.ClassOf(a), impl.ClassOf(b)) < 0 {
					class = -1
				}
				if got := impl.ClassOf(sum); got != class {
					t.Error(a, b, got, class)
				}
			}
		}
	}
}

func TestSeriesOfInvalid(t *testing.T) {
	for _, a := range algebrasWithFlaws() {
		if len(impl.DerivedSeries(a)) != 0 || len(impl.LowerSeries(a)) != 0 || len(impl.UpperSeries(a)) != 0 {
			t.Error(a)
		}
		if impl.IsSolvable(a) || impl.ClassOf(a) != -1 || impl.IsPerfect(a) {
			t.Error(a)
		}
	}
}
