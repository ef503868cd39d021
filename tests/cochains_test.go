package tests

import (
	"math"
	"math/rand/v2"
	"slices"
	"testing"

	"loop.example/g03109/impl"
)

func TestSubsets(t *testing.T) {
	for n := range 8 {
		for k := range n + 1 {
			if got := impl.SubsetsOf(n, k); !sameLists(got, subsetsBy(n, k)) {
				t.Error(n, k, got)
			}
		}
	}
	for _, c := range []struct {
		n, k int
		want [][]int
	}{
		{0, 0, [][]int{{}}}, {7, 0, [][]int{{}}}, {1, 1, [][]int{{0}}}, {3, 1, [][]int{{0}, {1}, {2}}}, {3, 3, [][]int{{0, 1, 2}}},
		{4, 2, [][]int{{0, 1}, {0, 2}, {0, 3}, {1, 2}, {1, 3}, {2, 3}}}, {7, 7, [][]int{{0, 1, 2, 3, 4, 5, 6}}},
	} {
		if got := impl.SubsetsOf(c.n, c.k); !sameLists(got, c.want) {
			t.Error(c, got)
		}
	}
}

func TestSubsetsThatAreNone(t *testing.T) {
	for _, n := range append(slices.Clone(extremes), 2, 7, 8, 28) {
		for _, k := range append(slices.Clone(extremes), 2, 7, 8, 28) {
			if got := impl.SubsetsOf(n, k); (n < 0 || n > 7 || k < 0 || k > n) && len(got) != 0 {
				t.Error(n, k, got)
			}
		}
	}
}

func TestSubsetsHaveNewMemory(t *testing.T) {
	for n := range 8 {
		for k := range n + 1 {
			first, second := impl.SubsetsOf(n, k), impl.SubsetsOf(n, k)
			scribble(first...)
			for i, list := range first {
				if slices.ContainsFunc(whole(list), func(x int) bool { return x != -1000-i }) {
					t.Error("two lists share memory", n, k)
				}
			}
			if !sameLists(second, subsetsBy(n, k)) {
				t.Error(n, k, second)
			}
		}
	}
}

func TestCochainOk(t *testing.T) {
	degrees := append(slices.Clone(extremes), 2, 3, 6, 7, 8)
	sizes := []int{0, 1, 2, 3, 4, 6, 7, 8, 21, 28, 35}
	for _, a := range []impl.Algebra{algebraOf(5, 0), algebraOf(5, 1, 0), affine(5), special(5), withTerms(5, 7), chain(5, 7), withTerms(5, 8), chain(5, 8), withTerms(5, 28)} {
		for _, k := range degrees {
			for _, size := range sizes {
				v := make([]int, size)
				if got := impl.CochainOk(a, k, v); got != validCochain(a, k, v) {
					t.Error(a.Dim, k, size, got)
				}
			}
		}
	}
	for k := range 4 {
		size := len(subsetsBy(3, k))
		if !impl.CochainOk(special(5), k, slices.Repeat([]int{4}, size)) {
			t.Error(k)
		}
		for _, v := range noCochains(k) {
			if impl.CochainOk(special(5), k, v) {
				t.Error(k, v)
			}
		}
	}
	for _, bad := range algebrasWithFlaws() {
		for k := range 4 {
			for _, size := range sizes {
				if impl.CochainOk(bad, k, make([]int, size)) {
					t.Error(bad, k, size)
				}
			}
		}
	}
}

// TestCochainsOfSmall has all lists of small sizes.
func TestCochainsOfSmall(t *testing.T) {
	for _, a := range append(fewAlgebras(2), fewAlgebras(3)...) {
		for k := -1; k <= a.Dim+1; k++ {
			for size := range 5 {
				for _, v := range allVectors(a.P+1, size) {
					if impl.CochainOk(a, k, v) != validCochain(a, k, v) {
						t.Error(a, k, v)
					}
				}
			}
		}
	}
}

func TestExamplesOfDifferentials(t *testing.T) {
	for _, c := range []struct {
		what string
		a    impl.Algebra
		k    int
		v    []int
		want []int
	}{
		{"dimension 0", algebraOf(5, 0), 0, []int{3}, nil},
		{"degree 0", special(5), 0, []int{2}, []int{0, 0, 0}},
		{"degree 0, dimension 1", algebraOf(5, 1, 0), 0, []int{2}, []int{0}},
		{"degree Dim", algebraOf(5, 1, 0), 1, []int{2}, nil},
		{"degree Dim", special(5), 3, []int{1}, nil},
		{"degree Dim of 7", withTerms(5, 7), 7, []int{1}, nil},
		{"less the number of the bracket", affine(5), 1, []int{2, 3}, []int{2}},
		{"[0, 1] is 2", heisenberg(5), 1, []int{0, 0, 1}, []int{4, 0, 0}},
		{"[h, e], [h, f] and [e, f]", special(7), 1, []int{1, 2, 3}, []int{3, 6, 6}},
		{"[0, 1] comes first, in front of 2", withTerms(7, 3, term{0, 1, 1, 1}), 2, []int{0, 0, 3}, []int{4}},
		{"and 0 if it is 2", heisenberg(7), 2, []int{1, 2, 3}, []int{0}},
		{"[0, 2] is 2, in front of 1", withTerms(7, 3, term{0, 2, 2, 1}), 2, []int{0, 0, 3}, []int{4}},
		{"[1, 2] is 0 in front of 0", special(7), 2, []int{0, 0, 3}, []int{0}},
		{"[1, 2] is 1, in front of 0", withTerms(7, 3, term{1, 2, 1, 1}), 2, []int{3, 0, 0}, []int{3}},
		{"[0, 1] is 2, in front of 3", sumOf(heisenberg(7), withTerms(7, 1)), 2, []int{0, 0, 0, 0, 0, 2}, []int{0, 5, 0, 0}},
		{"[0, 2] is 3, in front of 1", withTerms(7, 4, term{0, 2, 3, 1}), 2, []int{0, 0, 0, 0, 2, 0}, []int{5, 0, 0, 0}},
	} {
		mustVector(t, c.what, impl.DifferentialOf(c.a, c.k, c.v), c.want)
		mustVector(t, c.what, differentialBy(c.a, c.k, c.v), c.want)
	}
}

func TestDifferentials(t *testing.T) {
	eachCochainAlgebra(140, somePrimes, func(r *rand.Rand, a impl.Algebra) {
		for k := range a.Dim + 1 {
			v := randomCochain(r, a, k)
			got := impl.DifferentialOf(a, k, v)
			mustVector(t, "differential", got, differentialBy(a, k, v))
			if k < a.Dim && !impl.CochainOk(a, k+1, got) {
				t.Error(a, k, v, got)
			}
		}
	})
}

// TestSquaresOfDifferentials has promise 4: they are 0.
func TestSquaresOfDifferentials(t *testing.T) {
	eachCochainAlgebra(141, somePrimes, func(r *rand.Rand, a impl.Algebra) {
		for k := range a.Dim + 1 {
			v := impl.DifferentialOf(a, k, randomCochain(r, a, k))
			if k == a.Dim {
				mustVector(t, "none", v, nil)
				continue
			}
			if !impl.IsClosed(a, k+1, v) {
				t.Error(a, k, v)
			}
			if w := impl.DifferentialOf(a, k+1, v); !zeroVector(w) || k+2 <= a.Dim && !impl.CochainOk(a, k+2, w) {
				t.Error(a, k, v, w)
			}
		}
	})
}

// TestClosedOfSmall tries all cochains.
func TestClosedOfSmall(t *testing.T) {
	closed := map[bool]int{}
	for _, a := range append(fewAlgebras(2), fewAlgebras(3)...) {
		for k := range a.Dim + 1 {
			for _, v := range allVectors(a.P, len(subsetsBy(a.Dim, k))) {
				want := k == a.Dim || zeroVector(differentialBy(a, k, v))
				if impl.IsClosed(a, k, v) != want {
					t.Error(a, k, v)
				}
				closed[want]++
			}
		}
	}
	if closed[true] < 500 || closed[false] < 1000 {
		t.Error(closed)
	}
}

// TestClosedOfTwoDegrees compares with what chapters 2 and 3 say of the degrees 1 and 2.
func TestClosedOfTwoDegrees(t *testing.T) {
	closed := map[bool]int{}
	eachCochainAlgebra(142, []int{2, 3, 5}, func(r *rand.Rand, a impl.Algebra) {
		if a.Dim < 2 {
			return
		}
		derived, _ := impl.ProductSpace(a, impl.UnitMatrix(a.P, a.Dim), impl.UnitMatrix(a.P, a.Dim))
		for range 10 {
			f := randomVector(r, a.P, a.Dim)
			if impl.IsClosed(a, 1, f) != zeroVector(times(derived, f)) {
				t.Error(a, f)
			}
			mustVector(t, "coboundary", alternatingForm(a.P, a.Dim, multipleOf(a.P, -1, impl.DifferentialOf(a, 1, f))).Data, coboundaryBy(a, f).Data)
			v := randomCochain(r, a, 2)
			want := impl.IsCocycle(a, alternatingForm(a.P, a.Dim, v))
			if impl.IsClosed(a, 2, v) != want {
				t.Error(a, v)
			}
			closed[want]++
		}
	})
	if closed[true] < 100 || closed[false] < 100 {
		t.Error(closed)
	}
}

func TestUnimodular(t *testing.T) {
	for _, p := range somePrimes {
		for _, c := range []struct {
			a    impl.Algebra
			want bool
		}{
			{algebraOf(p, 0), true}, {algebraOf(p, 1, 0), true}, {withTerms(p, 28), true}, {heisenberg(p), true}, {special(p), true}, {general(p, 5), true}, {chain(p, 28), true},
			{affine(p), false}, {sumOf(special(p), affine(p)), false}, {sumOf(affine(p), withTerms(p, 26)), false}, {sumOf(withTerms(p, 26), affine(p)), false},
			{withTerms(p, 3, term{0, 1, 1, 1}, term{0, 2, 2, -1}), true}, {withTerms(p, 3, term{0, 1, 1, 1}, term{0, 2, 2, 1}), p == 2}, {withTerms(p, 3, term{0, 2, 0, 1}, term{1, 2, 1, 1}), p == 2},
			{withTerms(p, 4, term{0, 1, 1, 1}, term{0, 2, 2, 1}, term{0, 3, 3, 1}), p == 3}, {upperTable(p, 7, 1), true}, {upperTable(p, 7, 0), p == 2}, {upperTable(p, 6, 0), false},
		} {
			if got := impl.IsUnimodular(c.a); got != c.want {
				t.Error(p, c.a, got)
			}
		}
	}
	eachAlgebra(143, func(r *rand.Rand, a impl.Algebra) {
		want := true
		for range 20 {
			trace, _ := impl.TraceOf(adjointBy(a, randomVector(r, a.P, a.Dim)))
			want = want && trace == 0
		}
		if got := impl.IsUnimodular(a); got != want {
			t.Error(a, got)
		}
	})
	for _, bad := range algebrasWithFlaws() {
		if impl.IsUnimodular(bad) {
			t.Error(bad)
		}
	}
}

// TestDegreesOutOfRange asks for lists of all sizes up to 40.
func TestDegreesOutOfRange(t *testing.T) {
	for _, a := range []impl.Algebra{algebraOf(5, 0), affine(5), special(5), chain(5, 7), withTerms(5, 8)} {
		degrees := []int{math.MinInt, math.MinInt + 1, -8, -2, -1, a.Dim + 1, a.Dim + 2, 8, 9, 63, 64, 65, 1 << 32, math.MaxInt - 1, math.MaxInt}
		if a.Dim == 8 {
			degrees = append(degrees, upTo(8)...)
		}
		for _, k := range degrees {
			for size := range 41 {
				checkNoCochain(t, a, k, make([]int, size))
			}
			checkCount(t, "cohomology", impl.CohomologyOf(a, k), 0)
		}
	}
}

// checkNoCochain asks all functions that take a cochain.
func checkNoCochain(t *testing.T, a impl.Algebra, k int, v []int) {
	t.Helper()
	zero := make([]int, min(max(a.Dim, 0), 30))
	u, ok := impl.PrimitiveOf(a, k, v)
	if ok || len(u) != 0 || impl.CochainOk(a, k, v) || impl.IsClosed(a, k, v) {
		t.Error(a, k, v, u, ok)
	}
	for _, got := range [][]int{impl.DifferentialOf(a, k, v), impl.ContractBy(a, zero, k, v), impl.AlongOf(a, zero, k, v),
		impl.WedgeOf(a, k, v, 0, []int{0}), impl.WedgeOf(a, 0, []int{0}, k, v), impl.WedgeOf(a, k, v, 1, zero), impl.WedgeOf(a, 1, zero, k, v), impl.WedgeOf(a, k, v, k, v)} {
		if len(got) != 0 {
			t.Error(a, k, v, got)
		}
	}
}

func TestFunctionsOfNoCochains(t *testing.T) {
	for k := range 4 {
		for _, v := range noCochains(k) {
			checkNoCochain(t, special(5), k, v)
		}
	}
	for _, bad := range append(algebrasWithFlaws(), withTerms(5, 8), chain(5, 8), withTerms(2, 28)) {
		for k := range 9 {
			for _, size := range []int{0, 1, 2, 3, 4, 8, 28, 56, 70} {
				checkNoCochain(t, bad, k, make([]int, size))
			}
		}
		checkCount(t, "cohomology", impl.CohomologyOf(bad, 0), 0)
		if got := impl.BettiOf(bad); len(got) != 0 {
			t.Error(bad, got)
		}
	}
}

// cochainInput has an argument of each kind for the functions of cochains.
type cochainInput struct {
	a    impl.Algebra
	x    []int
	j, k int
	u, v []int
}

func (in cochainInput) slices() [][]int { return [][]int{in.a.Table, in.x, in.u, in.v} }

func (in cochainInput) memory() [][]int {
	var copies [][]int
	for _, list := range in.slices() {
		copies = append(copies, slices.Clone(whole(list)))
	}
	return copies
}

func (in cochainInput) overwrite() { scribble(in.slices()...) }

func (in cochainInput) roomy() cochainInput {
	in.a.Table, in.x, in.u, in.v = roomy(in.a.Table), roomy(in.x), roomy(in.u), roomy(in.v)
	return in
}

func TestCochainsStayAndMemoryIsNew(t *testing.T) {
	calls := map[string]func(in cochainInput) results{
		"CochainOk":      func(in cochainInput) results { return results{impl.CochainOk(in.a, in.k, in.v)} },
		"DifferentialOf": func(in cochainInput) results { return results{impl.DifferentialOf(in.a, in.k, in.v)} },
		"IsClosed":       func(in cochainInput) results { return results{impl.IsClosed(in.a, in.k, in.v)} },
		"PrimitiveOf":    func(in cochainInput) results { return pair(impl.PrimitiveOf(in.a, in.k, in.v)) },
		"BettiOf":        func(in cochainInput) results { return results{impl.BettiOf(in.a)} },
		"CohomologyOf":   func(in cochainInput) results { return results{impl.CohomologyOf(in.a, in.k)} },
		"WedgeOf":        func(in cochainInput) results { return results{impl.WedgeOf(in.a, in.j, in.u, in.k, in.v)} },
		"ContractBy":     func(in cochainInput) results { return results{impl.ContractBy(in.a, in.x, in.k, in.v)} },
		"AlongOf":        func(in cochainInput) results { return results{impl.AlongOf(in.a, in.x, in.k, in.v)} },
		"IsUnimodular":   func(in cochainInput) results { return results{impl.IsUnimodular(in.a)} },
	}
	for name, call := range calls {
		eachCochainAlgebra(144, []int{5}, func(r *rand.Rand, a impl.Algebra) {
			for k := range a.Dim + 1 {
				j := r.IntN(a.Dim + 1)
				v := randomCochain(r, a, k)
				if k > 0 && r.IntN(2) == 0 {
					v = impl.DifferentialOf(a, k-1, randomCochain(r, a, k-1))
				}
				in := cochainInput{a, randomVector(r, a.P, a.Dim), j, k, randomCochain(r, a, j), v}.roomy()
				checkMemory(t, name, in, func() results { return call(in) })
				twice := cochainInput{a, randomVector(r, a.P, a.Dim), k, k, nil, randomCochain(r, a, k)}.roomy()
				twice.u = twice.v
				checkMemory(t, name, twice, func() results { return call(twice) })
			}
		})
	}
}
