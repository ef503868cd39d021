package tests

import (
	"math"
	"math/rand/v2"
	"slices"
	"testing"

	"loop.example/g03109/impl"
)

func TestExamplesOfWedge(t *testing.T) {
	for _, c := range []struct {
		what string
		a    impl.Algebra
		j    int
		u    []int
		k    int
		v    []int
		want []int
	}{
		{"degree 0", special(5), 0, []int{3}, 0, []int{4}, []int{2}},
		{"dimension 0", algebraOf(5, 0), 0, []int{3}, 0, []int{3}, []int{4}},
		{"times 3", special(5), 0, []int{3}, 2, []int{1, 2, 3}, []int{3, 1, 4}},
		{"times 3", special(5), 2, []int{1, 2, 3}, 0, []int{3}, []int{3, 1, 4}},
		{"0 and 1", special(5), 1, []int{1, 0, 0}, 1, []int{0, 1, 0}, []int{1, 0, 0}},
		{"1 and 0", special(5), 1, []int{0, 1, 0}, 1, []int{1, 0, 0}, []int{4, 0, 0}},
		{"1 and 1", special(5), 1, []int{0, 1, 0}, 1, []int{0, 1, 0}, []int{0, 0, 0}},
		{"the same", special(5), 1, []int{1, 2, 3}, 1, []int{1, 2, 3}, []int{0, 0, 0}},
		{"0 and 1 2", special(5), 1, []int{1, 0, 0}, 2, []int{0, 0, 1}, []int{1}},
		{"1 and 0 2", special(5), 1, []int{0, 1, 0}, 2, []int{0, 1, 0}, []int{4}},
		{"2 and 0 1", special(5), 1, []int{0, 0, 1}, 2, []int{1, 0, 0}, []int{1}},
		{"1 2 and 0", special(5), 2, []int{0, 0, 1}, 1, []int{1, 0, 0}, []int{1}},
		{"0 2 and 1", special(5), 2, []int{0, 1, 0}, 1, []int{0, 1, 0}, []int{4}},
		{"the same twice, without halves", withTerms(5, 4), 2, []int{1, 0, 0, 0, 0, 1}, 2, []int{1, 0, 0, 0, 0, 1}, []int{2}},
		{"0 2 and 1 3", withTerms(5, 4), 2, []int{0, 1, 0, 0, 0, 0}, 2, []int{0, 0, 0, 0, 1, 0}, []int{4}},
		{"0 3 and 1 2", withTerms(5, 4), 2, []int{0, 0, 1, 0, 0, 0}, 2, []int{0, 0, 0, 1, 0, 0}, []int{1}},
		{"too many", special(5), 2, []int{1, 2, 3}, 2, []int{1, 2, 3}, nil},
		{"too many", special(5), 1, []int{1, 2, 3}, 3, []int{1}, nil},
		{"too many", special(5), 3, []int{1}, 1, []int{1, 2, 3}, nil},
		{"too many", withTerms(5, 7), 7, []int{1}, 7, []int{1}, nil},
		{"too many", withTerms(5, 7), 1, make([]int, 7), 7, []int{1}, nil},
		{"all of 7", withTerms(5, 7), 7, []int{2}, 0, []int{4}, []int{3}},
	} {
		mustVector(t, c.what, impl.WedgeOf(c.a, c.j, c.u, c.k, c.v), c.want)
	}
	for size := range 9 {
		for _, j := range []int{math.MinInt, -1, 4, math.MaxInt} {
			for _, k := range []int{math.MinInt, -1, 0, 1, 2, 3, 4, math.MaxInt} {
				v := make([]int, len(impl.SubsetsOf(3, k)))
				mustVector(t, "no degree", impl.WedgeOf(special(5), j, make([]int, size), k, v), nil)
				mustVector(t, "no degree", impl.WedgeOf(special(5), k, v, j, make([]int, size)), nil)
			}
		}
	}
}

func TestWedge(t *testing.T) {
	eachCochainAlgebra(160, []int{2, 5, 10007}, func(r *rand.Rand, a impl.Algebra) {
		for j := range a.Dim + 1 {
			for k := range a.Dim + 1 {
				u, v := randomCochain(r, a, j), randomCochain(r, a, k)
				got := impl.WedgeOf(a, j, u, k, v)
				if j+k > a.Dim {
					mustVector(t, "too many", got, nil)
					continue
				}
				mustVector(t, "product", got, wedgeBy(a, j, u, k, v))
				mustVector(t, "other order", impl.WedgeOf(a, k, v, j, u), multipleOf(a.P, power(j*k), got))
				if i := r.IntN(a.Dim - j - k + 1); i >= 0 {
					w := randomCochain(r, a, i)
					mustVector(t, "three", impl.WedgeOf(a, j+k, got, i, w), impl.WedgeOf(a, j, u, k+i, impl.WedgeOf(a, k, v, i, w)))
				}
			}
		}
	})
}

// TestDifferentialsOfProducts has the rule of Leibniz for the differential, and for what contracts and goes along.
func TestDifferentialsOfProducts(t *testing.T) {
	eachCochainAlgebra(161, []int{2, 3, 10007}, func(r *rand.Rand, a impl.Algebra) {
		for j := range a.Dim + 1 {
			for k := range a.Dim - j + 1 {
				u, v, x := randomCochain(r, a, j), randomCochain(r, a, k), randomVector(r, a.P, a.Dim)
				both := impl.WedgeOf(a, j, u, k, v)
				along := plus(a.P, impl.WedgeOf(a, j, impl.AlongOf(a, x, j, u), k, v), impl.WedgeOf(a, j, u, k, impl.AlongOf(a, x, k, v)))
				mustVector(t, "along", impl.AlongOf(a, x, j+k, both), along)
				if j+k < a.Dim {
					left, right := impl.WedgeOf(a, j+1, impl.DifferentialOf(a, j, u), k, v), impl.WedgeOf(a, j, u, k+1, impl.DifferentialOf(a, k, v))
					mustVector(t, "differential", impl.DifferentialOf(a, j+k, both), plus(a.P, left, multipleOf(a.P, power(j), right)))
				}
				if j > 0 && k > 0 {
					left, right := impl.WedgeOf(a, j-1, impl.ContractBy(a, x, j, u), k, v), impl.WedgeOf(a, j, u, k-1, impl.ContractBy(a, x, k, v))
					mustVector(t, "contracted", impl.ContractBy(a, x, j+k, both), plus(a.P, left, multipleOf(a.P, power(j), right)))
				}
			}
		}
	})
}

func TestExamplesOfContraction(t *testing.T) {
	for _, c := range []struct {
		what string
		a    impl.Algebra
		x    []int
		k    int
		v    []int
		want []int
	}{
		{"degree 0", special(5), []int{1, 0, 0}, 0, []int{1}, nil},
		{"dimension 0", algebraOf(5, 0), nil, 0, []int{1}, nil},
		{"degree 1", special(5), []int{1, 2, 3}, 1, []int{1, 1, 2}, []int{4}},
		{"0 in 0 1", special(5), []int{1, 0, 0}, 2, []int{1, 0, 0}, []int{0, 1, 0}},
		{"1 in 0 1", special(5), []int{0, 1, 0}, 2, []int{1, 0, 0}, []int{4, 0, 0}},
		{"2 in 0 1", special(5), []int{0, 0, 1}, 2, []int{1, 0, 0}, []int{0, 0, 0}},
		{"0 in 0 1 2", special(5), []int{1, 0, 0}, 3, []int{1}, []int{0, 0, 1}},
		{"1 in 0 1 2", special(5), []int{0, 1, 0}, 3, []int{1}, []int{0, 4, 0}},
		{"2 in 0 1 2", special(5), []int{0, 0, 1}, 3, []int{1}, []int{1, 0, 0}},
		{"0", special(5), []int{0, 0, 0}, 3, []int{1}, []int{0, 0, 0}},
		{"dimension 1", algebraOf(5, 1, 0), []int{2}, 1, []int{4}, []int{3}},
	} {
		mustVector(t, c.what, impl.ContractBy(c.a, c.x, c.k, c.v), c.want)
	}
}

func TestExamplesOfAlong(t *testing.T) {
	for _, c := range []struct {
		what string
		a    impl.Algebra
		x    []int
		k    int
		v    []int
		want []int
	}{
		{"degree 0", special(5), []int{1, 2, 3}, 0, []int{1}, []int{0}},
		{"dimension 0", algebraOf(5, 0), nil, 0, []int{1}, []int{0}},
		{"less [h, e] and [h, f]", special(7), []int{1, 0, 0}, 1, []int{1, 2, 3}, []int{0, 3, 6}},
		{"less [e, h] and [e, f]", special(7), []int{0, 1, 0}, 1, []int{1, 2, 3}, []int{4, 0, 6}},
		{"[e, h] and f", special(7), []int{0, 1, 0}, 2, []int{0, 0, 3}, []int{0, 6, 0}},
		{"h and [e, f]", special(7), []int{0, 1, 0}, 2, []int{3, 0, 0}, []int{0, 0, 3}},
		{"[0, 1] in place of 1", withTerms(7, 3, term{0, 1, 2, 1}), []int{1, 0, 0}, 2, []int{0, 3, 0}, []int{4, 0, 0}},
		{"[0, 1] in place of 1, where it occurs twice", withTerms(7, 3, term{0, 1, 2, 1}), []int{1, 0, 0}, 2, []int{0, 0, 3}, []int{0, 0, 0}},
		{"less the trace", affine(7), []int{1, 0}, 2, []int{3}, []int{4}},
		{"no trace", special(7), []int{1, 2, 3}, 3, []int{3}, []int{0}},
	} {
		mustVector(t, c.what, impl.AlongOf(c.a, c.x, c.k, c.v), c.want)
		mustVector(t, c.what, alongBy(c.a, c.x, c.k, c.v), c.want)
	}
}

func TestContractionAndAlong(t *testing.T) {
	eachCochainAlgebra(162, somePrimes, func(r *rand.Rand, a impl.Algebra) {
		for k := range a.Dim + 1 {
			x, v := randomVector(r, a.P, a.Dim), randomCochain(r, a, k)
			mustVector(t, "along", impl.AlongOf(a, x, k, v), alongBy(a, x, k, v))
			if k == 0 {
				mustVector(t, "contracted", impl.ContractBy(a, x, k, v), nil)
				continue
			}
			mustVector(t, "contracted", impl.ContractBy(a, x, k, v), contractBy(a, x, k, v))
		}
	})
}

// TestFormulaOfCartan says that going along an element is the differential of the contraction and the contraction of the differential together, and what follows.
func TestFormulaOfCartan(t *testing.T) {
	eachCochainAlgebra(163, somePrimes, func(r *rand.Rand, a impl.Algebra) {
		for k := range a.Dim + 1 {
			x, y, v := randomVector(r, a.P, a.Dim), randomVector(r, a.P, a.Dim), randomCochain(r, a, k)
			along := impl.AlongOf(a, x, k, v)
			sum := make([]int, len(v))
			if k > 0 {
				sum = plus(a.P, sum, impl.DifferentialOf(a, k-1, impl.ContractBy(a, x, k, v)))
			}
			if k < a.Dim {
				sum = plus(a.P, sum, impl.ContractBy(a, x, k+1, impl.DifferentialOf(a, k, v)))
				mustVector(t, "along and differential", impl.AlongOf(a, x, k+1, impl.DifferentialOf(a, k, v)), impl.DifferentialOf(a, k, along))
			}
			mustVector(t, "formula", along, sum)
			both := minus(a.P, impl.AlongOf(a, x, k, impl.AlongOf(a, y, k, v)), impl.AlongOf(a, y, k, along))
			mustVector(t, "bracket", impl.AlongOf(a, bracketBy(a, x, y), k, v), both)
			if k < 1 {
				continue
			}
			inner := impl.ContractBy(a, y, k, v)
			both = minus(a.P, impl.AlongOf(a, x, k-1, inner), impl.ContractBy(a, y, k, along))
			mustVector(t, "contracted by a bracket", impl.ContractBy(a, bracketBy(a, x, y), k, v), both)
			if k > 1 {
				twice := plus(a.P, impl.ContractBy(a, x, k-1, inner), impl.ContractBy(a, y, k-1, impl.ContractBy(a, x, k, v)))
				if !zeroVector(twice) || !zeroVector(impl.ContractBy(a, y, k-1, inner)) {
					t.Error(a, x, y, k, v)
				}
			}
		}
	})
}

func TestContractionByNoElement(t *testing.T) {
	list := [][]int{nil, {0}, {0, 0}, {0, 0, 0, 0}, {0, 0, 0, 0, 0, 0, 0}}
	for place := range 3 {
		for _, x := range []int{math.MinInt, -5, -1, 5, 6, math.MaxInt} {
			element := make([]int, 3)
			element[place] = x
			list = append(list, element)
		}
	}
	for _, x := range list {
		for k := range 4 {
			v := slices.Repeat([]int{1}, len(subsetsBy(3, k)))
			mustVector(t, "contracted", impl.ContractBy(special(5), x, k, v), nil)
			mustVector(t, "along", impl.AlongOf(special(5), x, k, v), nil)
		}
	}
	mustVector(t, "along", impl.AlongOf(algebraOf(5, 0), []int{0}, 0, []int{1}), nil)
}
