package tests

import (
	"math/rand/v2"
	"slices"
	"testing"

	"loop.example/g03109/impl"
)

// knownSubsets keeps what subsetsBy has found.
var knownSubsets = map[[2]int][][]int{}

// subsetsBy finds the lists of k numbers below n among all sets.
func subsetsBy(n int, k int) [][]int {
	if list, ok := knownSubsets[[2]int{n, k}]; ok {
		return list
	}
	var list [][]int
	for set := range 1 << n {
		var subset []int
		for i := range n {
			if set>>i%2 == 1 {
				subset = append(subset, i)
			}
		}
		if len(subset) == k {
			list = append(list, subset)
		}
	}
	slices.SortFunc(list, slices.Compare)
	knownSubsets[[2]int{n, k}] = list
	return list
}

// orderSign counts the pairs in descending order; it is 0 if two numbers are equal.
func orderSign(list []int) int {
	sign := 1
	for j := range list {
		for i := range j {
			if list[i] == list[j] {
				return 0
			}
			if list[i] > list[j] {
				sign = -sign
			}
		}
	}
	return sign
}

// valueAt is the value of a cochain for basis elements in any order.
func valueAt(a impl.Algebra, v []int, list []int) int {
	sign := orderSign(list)
	if sign == 0 {
		return 0
	}
	sorted := slices.Sorted(slices.Values(list))
	place := slices.IndexFunc(subsetsBy(a.Dim, len(list)), func(s []int) bool { return slices.Equal(s, sorted) })
	return impl.Residue(sign*v[place], a.P)
}

// valueOn is the value of a cochain for any elements, linear in each of them.
func valueOn(a impl.Algebra, v []int, elements ...[]int) int {
	return valueBehind(a, v, nil, elements)
}

func valueBehind(a impl.Algebra, v []int, before []int, elements [][]int) int {
	if len(elements) == 0 {
		return valueAt(a, v, before)
	}
	sum := 0
	for b, n := range elements[0] {
		if n != 0 {
			sum += n * valueBehind(a, v, slices.Concat(before, []int{b}), elements[1:])
		}
	}
	return sum % a.P
}

// cochainBy has the residues of the values for basis elements, which are given as elements.
func cochainBy(a impl.Algebra, k int, value func(elements [][]int) int) []int {
	var v []int
	for _, list := range subsetsBy(a.Dim, k) {
		elements := make([][]int, k)
		for i, b := range list {
			elements[i] = unitVector(a.Dim, b)
		}
		v = append(v, impl.Residue(value(elements), a.P))
	}
	return v
}

func power(n int) int {
	if n%2 == 0 {
		return 1
	}
	return -1
}

func differentialBy(a impl.Algebra, k int, v []int) []int {
	return cochainBy(a, k+1, func(b [][]int) int {
		sum := 0
		for i := range b {
			for j := i + 1; j < len(b); j++ {
				list := [][]int{bracketBy(a, b[i], b[j])}
				for l := range b {
					if l != i && l != j {
						list = append(list, b[l])
					}
				}
				sum += power(i+j) * valueOn(a, v, list...)
			}
		}
		return sum
	})
}

func contractBy(a impl.Algebra, x []int, k int, v []int) []int {
	return cochainBy(a, k-1, func(b [][]int) int { return valueOn(a, v, slices.Concat([][]int{x}, b)...) })
}

func alongBy(a impl.Algebra, x []int, k int, v []int) []int {
	return cochainBy(a, k, func(b [][]int) int {
		sum := 0
		for i := range b {
			list := slices.Clone(b)
			list[i] = bracketBy(a, x, b[i])
			sum -= valueOn(a, v, list...)
		}
		return sum
	})
}

func wedgeBy(a impl.Algebra, j int, u []int, k int, v []int) []int {
	return cochainBy(a, j+k, func(b [][]int) int {
		sum := 0
		for _, first := range subsetsBy(j+k, j) {
			order := slices.Clone(first)
			for i := range j + k {
				if !slices.Contains(first, i) {
					order = append(order, i)
				}
			}
			var elements [][]int
			for _, i := range order {
				elements = append(elements, b[i])
			}
			sum += orderSign(order) * valueOn(a, u, elements[:j]...) * valueOn(a, v, elements[j:]...)
		}
		return sum
	})
}

// differentialsBy has the differential of each cochain of degree k with a single 1 as a row.
func differentialsBy(a impl.Algebra, k int) [][]int {
	size := len(subsetsBy(a.Dim, k))
	var rows [][]int
	for i := range size {
		rows = append(rows, differentialBy(a, k, unitVector(size, i)))
	}
	return rows
}

// validCochain says by the document's words what CochainOk must say.
func validCochain(a impl.Algebra, k int, v []int) bool {
	return a.Dim <= 7 && validAlgebra(a) && k >= 0 && k <= a.Dim && len(v) == len(subsetsBy(a.Dim, k)) &&
		!slices.ContainsFunc(v, func(x int) bool { return x < 0 || x >= a.P })
}

// cochainAlgebras are of the dimensions from 0 to 7.
func cochainAlgebras(p int) []impl.Algebra {
	return append(fewAlgebras(p), chain(p, 5), sumOf(heisenberg(p), affine(p)), chain(p, 6), upperTable(p, 3, 0), upperTable(p, 4, 1),
		sumOf(affine(p), affine(p), affine(p)), sumOf(special(p), general(p, 2)), sumOf(heisenberg(p), affine(p), affine(p)), chain(p, 7), withTerms(p, 7))
}

// eachCochainAlgebra calls f for each of them, and for the same in a random basis.
func eachCochainAlgebra(seed uint64, primes []int, f func(r *rand.Rand, a impl.Algebra)) {
	r := newRandom(seed)
	for _, p := range primes {
		for _, a := range cochainAlgebras(p) {
			f(r, a)
			f(r, scrambled(r, a))
		}
	}
}

func randomCochain(r *rand.Rand, a impl.Algebra, k int) []int {
	return randomVector(r, a.P, len(subsetsBy(a.Dim, k)))
}

func minus(p int, x []int, y []int) []int { return plus(p, x, multipleOf(p, -1, y)) }

func multipleOf(p int, n int, v []int) []int {
	list := make([]int, len(v))
	for i, x := range v {
		list[i] = impl.Residue(n*x, p)
	}
	return list
}

func mustVector(t *testing.T, what string, got []int, want []int) {
	t.Helper()
	if !slices.Equal(got, want) {
		t.Errorf("%s: %v, not %v", what, got, want)
	}
}

func sameLists(a [][]int, b [][]int) bool { return slices.EqualFunc(a, b, slices.Equal) }

// noCochains are none of this degree, for an algebra of dimension 3 modulo 5.
func noCochains(k int) [][]int {
	size := len(subsetsBy(3, k))
	list := [][]int{make([]int, size+1), make([]int, size-1), make([]int, 8)}
	for place := range size {
		for _, x := range append(slices.Clone(extremes), 5, 6, -5) {
			if x < 0 || x > 4 {
				v := make([]int, size)
				v[place] = x
				list = append(list, v)
			}
		}
	}
	return list
}
