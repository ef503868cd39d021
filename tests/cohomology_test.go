package tests

import (
	"math/rand/v2"
	"slices"
	"testing"

	"loop.example/g03109/impl"
)

func binomials(n int) []int {
	list := []int{1}
	for range n {
		list = convolution(list, []int{1, 1})
	}
	return list
}

// convolution has at place k the sum of all products of numbers at places with the sum k.
func convolution(a []int, b []int) []int {
	list := make([]int, len(a)+len(b)-1)
	for i, x := range a {
		for j, y := range b {
			list[i+j] += x * y
		}
	}
	return list
}

func TestExamplesOfBetti(t *testing.T) {
	r := newRandom(150)
	check := func(what string, a impl.Algebra, want ...int) {
		t.Helper()
		mustVector(t, what, impl.BettiOf(a), want)
		mustVector(t, what, impl.BettiOf(scrambled(r, a)), want)
	}
	for _, p := range somePrimes {
		for n := range 8 {
			check("abelian", withTerms(p, n), binomials(n)...)
		}
		check("dimension 0", algebraOf(p, 0), 1)
		check("dimension 1", algebraOf(p, 1, 0), 1, 1)
		check("affine", affine(p), 1, 1, 0)
		check("dimension 3", heisenberg(p), 1, 2, 2, 1)
		check("chain of 4", chain(p, 4), 1, 2, 2, 2, 1)
		check("two chains of 3", sumOf(heisenberg(p), heisenberg(p)), 1, 4, 8, 10, 8, 4, 1)
		check("three affine ones", sumOf(affine(p), affine(p), affine(p)), 1, 3, 3, 1, 0, 0, 0)
	}
	for _, p := range somePrimes[1:] {
		check("trace 0", special(p), 1, 0, 0, 1)
		check("all", general(p, 2), 1, 1, 0, 1, 1)
		check("two of trace 0", sumOf(special(p), special(p)), 1, 0, 0, 2, 0, 0, 1)
		check("two of trace 0 and one", sumOf(special(p), general(p, 2)), 1, 1, 0, 2, 2, 0, 1, 1)
	}
	for _, p := range somePrimes[2:] {
		// Kostant's numbers of the strictly upper matrices of 4 rows are those of the lengths of permutations.
		check("upper matrices of 4 rows", upperTable(p, 4, 1), 1, 3, 5, 6, 5, 3, 1)
		check("chain of 5", chain(p, 5), 1, 2, 3, 3, 2, 1)
		check("chain of 6", chain(p, 6), 1, 2, 3, 4, 3, 2, 1)
	}
	check("trace 0 modulo 2", special(2), 1, 2, 2, 1)
}

func TestBettiFails(t *testing.T) {
	for _, a := range append(algebrasWithFlaws(), withTerms(5, 8), chain(5, 8), traceless(5, 3), withTerms(2, 28)) {
		if got := impl.BettiOf(a); len(got) != 0 {
			t.Error(a, got)
		}
		for k := -1; k < 9; k++ {
			checkCount(t, "cohomology", impl.CohomologyOf(a, k), 0)
		}
	}
}

// bettiBy finds the dimensions by the ranks of what differentialBy says.
func bettiBy(a impl.Algebra) []int {
	var list []int
	below := 0
	for k := range a.Dim + 1 {
		rank := rankBy(a.P, differentialsBy(a, k))
		list = append(list, len(subsetsBy(a.Dim, k))-rank-below)
		below = rank
	}
	return list
}

func TestBetti(t *testing.T) {
	eachCochainAlgebra(151, somePrimes, func(r *rand.Rand, a impl.Algebra) {
		got := impl.BettiOf(a)
		mustVector(t, "Betti numbers", got, bettiBy(a))
		derived := impl.DerivedSeries(a)
		if a.Dim > 0 && got[1] != a.Dim-derived[min(1, len(derived)-1)].Rows {
			t.Error(a, got)
		}
		euler := 0
		for k, n := range got {
			euler += power(k) * n
			checkCount(t, "cohomology", impl.CohomologyOf(a, k), n)
		}
		if got[0] != 1 || a.Dim > 0 && euler != 0 {
			t.Error(a, got, euler)
		}
	})
}

// TestBettiOfDuals has promise 4: the numbers of degree k and Dim - k are the same where all traces are 0; otherwise the last one is 0.
func TestBettiOfDuals(t *testing.T) {
	unimodular := map[bool]int{}
	eachCochainAlgebra(152, somePrimes, func(r *rand.Rand, a impl.Algebra) {
		list := impl.BettiOf(a)
		back := slices.Clone(list)
		slices.Reverse(back)
		same := impl.IsUnimodular(a)
		unimodular[same]++
		if same && !slices.Equal(list, back) || same != (list[a.Dim] == 1) {
			t.Error(a, list)
		}
	})
	if unimodular[true] < 100 || unimodular[false] < 50 {
		t.Error(unimodular)
	}
}

// TestBettiOfSums has promise 4: those of a sum are sums of products.
func TestBettiOfSums(t *testing.T) {
	r := newRandom(153)
	for _, p := range []int{2, 3, 10007} {
		list := append(fewAlgebras(p), chain(p, 5))
		for _, a := range list {
			for _, b := range list {
				if a.Dim+b.Dim <= 7 {
					mustVector(t, "sum", impl.BettiOf(scrambled(r, sumOf(a, b))), convolution(impl.BettiOf(a), impl.BettiOf(b)))
				}
			}
		}
	}
}

func TestExamplesOfPrimitives(t *testing.T) {
	for _, c := range []struct {
		what string
		a    impl.Algebra
		k    int
		v    []int
		want []int
		ok   bool
	}{
		{"degree 0, dimension 0", algebraOf(5, 0), 0, []int{0}, nil, true},
		{"degree 0, dimension 0", algebraOf(5, 0), 0, []int{3}, nil, false},
		{"degree 0", special(5), 0, []int{0}, nil, true},
		{"degree 0", special(5), 0, []int{1}, nil, false},
		{"degree 1", heisenberg(5), 1, []int{0, 0, 0}, []int{0}, true},
		{"degree 1", heisenberg(5), 1, []int{0, 1, 0}, nil, false},
		{"degree 2", heisenberg(5), 2, []int{3, 0, 0}, []int{0, 0, 2}, true},
		{"degree 2", heisenberg(5), 2, []int{3, 1, 0}, nil, false},
		{"a free number", withTerms(5, 3, term{0, 1, 1, 1}, term{0, 1, 2, 1}), 2, []int{3, 0, 0}, []int{0, 2, 0}, true},
		{"all of degree 2", special(5), 2, []int{1, 1, 1}, []int{4, 2, 3}, true},
		{"not closed", affine(5), 1, []int{0, 1}, nil, false},
		{"degree Dim", affine(5), 2, []int{2}, []int{0, 3}, true},
		{"degree Dim", special(5), 3, []int{1}, nil, false},
		{"degree Dim", special(5), 3, []int{0}, []int{0, 0, 0}, true},
		{"dimension 7", withTerms(5, 7), 7, []int{0}, make([]int, 7), true},
		{"dimension 7", withTerms(5, 7), 7, []int{1}, nil, false},
	} {
		if got, ok := impl.PrimitiveOf(c.a, c.k, c.v); !slices.Equal(got, c.want) || ok != c.ok {
			t.Error(c.what, c.k, c.v, got, ok)
		}
	}
}

// TestPrimitives compares with SolveMatrix of the matrix of all differentials.
func TestPrimitives(t *testing.T) {
	done := map[bool]int{}
	eachCochainAlgebra(154, somePrimes, func(r *rand.Rand, a impl.Algebra) {
		for k := 1; k <= a.Dim; k++ {
			rows := differentialsBy(a, k-1)
			m := impl.TransposeMatrix(matrixOf(a.P, len(rows), len(subsetsBy(a.Dim, k)), slices.Concat(rows...)...))
			for _, v := range [][]int{times(m, randomVector(r, a.P, m.Cols)), randomCochain(r, a, k), make([]int, m.Rows)} {
				want, can := impl.SolveMatrix(m, v)
				got, ok := impl.PrimitiveOf(a, k, v)
				if ok != can || !slices.Equal(got, want) || ok && !slices.Equal(impl.DifferentialOf(a, k-1, got), v) {
					t.Error(a, k, v, got, ok)
				}
				done[ok]++
			}
		}
	})
	if done[true] < 1000 || done[false] < 500 {
		t.Error(done)
	}
}

func TestExamplesOfCohomology(t *testing.T) {
	for _, c := range []struct {
		what string
		a    impl.Algebra
		k    int
		want [][]int
	}{
		{"dimension 0", algebraOf(5, 0), 0, [][]int{{1}}},
		{"degree 0", special(5), 0, [][]int{{1}}},
		{"degree 1", special(5), 1, nil},
		{"degree 2", special(5), 2, nil},
		{"degree 3", special(5), 3, [][]int{{1}}},
		{"degree 1", heisenberg(5), 1, [][]int{{1, 0, 0}, {0, 1, 0}}},
		{"degree 2", heisenberg(5), 2, [][]int{{0, 1, 0}, {0, 0, 1}}},
		{"degree 1", affine(5), 1, [][]int{{1, 0}}},
		{"degree 2", affine(5), 2, nil},
		// The differentials are the multiples of {1, 1, 0}: {1, 0, 0} is none, and {0, 1, 0} is one less {1, 0, 0}.
		{"a class of two", withTerms(5, 3, term{0, 1, 2, 1}, term{0, 2, 2, 1}), 2, [][]int{{1, 0, 0}}},
		{"degree 7", withTerms(5, 7), 7, [][]int{{1}}},
		{"no degree", special(5), -1, nil},
		{"no degree", special(5), 4, nil},
		{"no degree", algebraOf(5, 0), 1, nil},
	} {
		if got := impl.CohomologyOf(c.a, c.k); !sameLists(got, c.want) {
			t.Error(c.what, c.k, got)
		}
	}
}

// TestCohomology takes the closed cochains one after the other, and keeps those that make the rank greater.
func TestCohomology(t *testing.T) {
	eachCochainAlgebra(155, somePrimes, func(r *rand.Rand, a impl.Algebra) {
		for k := range a.Dim + 1 {
			size := len(subsetsBy(a.Dim, k))
			rows := differentialsBy(a, k)
			closed := impl.KernelOf(impl.TransposeMatrix(matrixOf(a.P, size, len(subsetsBy(a.Dim, k+1)), slices.Concat(rows...)...)))
			var want, before [][]int
			if k > 0 {
				before = differentialsBy(a, k-1)
			}
			for i := range closed.Rows {
				longer := append(slices.Clone(before), row(closed, i))
				if rankBy(a.P, copyEach(longer, slices.Clone)) > rankBy(a.P, copyEach(before, slices.Clone)) {
					want = append(want, row(closed, i))
				}
				before = longer
			}
			if got := impl.CohomologyOf(a, k); !sameLists(got, want) {
				t.Error(a, k, got, want)
			}
		}
	})
}
