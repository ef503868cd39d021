package tests

import (
	"cmp"
	"math"
	"slices"
	"testing"

	"loop.example/g03109/impl"
)

func TestExamplesOfPositiveRoots(t *testing.T) {
	for _, e := range []struct {
		name  string
		roots [][]int
	}{
		{"A1", [][]int{{1}}},
		{"A2", [][]int{{1, 0}, {0, 1}, {1, 1}}},
		{"B2", [][]int{{1, 0}, {0, 1}, {1, 1}, {1, 2}}},
		{"G2", [][]int{{1, 0}, {0, 1}, {1, 1}, {2, 1}, {3, 1}, {3, 2}}},
		{"A1+A1", [][]int{{1, 0}, {0, 1}}},
		{"A1+A2", [][]int{{1, 0, 0}, {0, 1, 0}, {0, 0, 1}, {0, 1, 1}}},
		{"A3", [][]int{{1, 0, 0}, {0, 1, 0}, {0, 0, 1}, {1, 1, 0}, {0, 1, 1}, {1, 1, 1}}},
		{"B3", [][]int{{1, 0, 0}, {0, 1, 0}, {0, 0, 1}, {1, 1, 0}, {0, 1, 1}, {1, 1, 1}, {0, 1, 2}, {1, 1, 2}, {1, 2, 2}}},
		{"C3", [][]int{{1, 0, 0}, {0, 1, 0}, {0, 0, 1}, {1, 1, 0}, {0, 1, 1}, {1, 1, 1}, {0, 2, 1}, {1, 2, 1}, {2, 2, 1}}},
		{"D4", [][]int{
			{1, 0, 0, 0}, {0, 1, 0, 0}, {0, 0, 1, 0}, {0, 0, 0, 1}, {1, 1, 0, 0}, {0, 1, 1, 0}, {0, 1, 0, 1},
			{1, 1, 1, 0}, {1, 1, 0, 1}, {0, 1, 1, 1}, {1, 1, 1, 1}, {1, 2, 1, 1},
		}},
	} {
		if got := impl.PositiveRoots(cartanNamed(t, e.name)); !sameLists(got, e.roots) {
			t.Error(e.name, got)
		}
	}
	reversed := impl.Cartan{Rank: 2, Data: []int{2, -1, -3, 2}}
	if got := impl.PositiveRoots(reversed); !sameLists(got, [][]int{{1, 0}, {0, 1}, {1, 1}, {1, 2}, {1, 3}, {2, 3}}) {
		t.Error(got)
	}
}

// positiveBy sorts those roots without numbers below 0.
func positiveBy(c impl.Cartan) [][]int {
	var list [][]int
	for _, x := range rootsBy(c) {
		if slices.Min(x) >= 0 {
			list = append(list, x)
		}
	}
	slices.SortFunc(list, func(x, y []int) int {
		return cmp.Or(sumOfNumbers(x)-sumOfNumbers(y), -slices.Compare(x, y))
	})
	return list
}

func TestPositiveRoots(t *testing.T) {
	for _, k := range reorderedTypes() {
		want := positiveBy(k.c)
		if got := impl.PositiveRoots(k.c); !sameLists(got, want) {
			t.Error(k.c, got, want)
		}
		if len(rootsBy(k.c)) != 2*len(want) {
			t.Error(k.c)
		}
	}
}

// TestCountsOfPositiveRoots has the numbers of the books, which are the sums of the exponents.
func TestCountsOfPositiveRoots(t *testing.T) {
	counts := map[string]int{"A1": 1, "A2": 3, "A3": 6, "A4": 10, "B2": 4, "B3": 9, "B4": 16, "C3": 9, "C4": 16, "D4": 12, "F4": 24, "G2": 6}
	for _, k := range knownTypes() {
		want := 0
		for _, name := range k.partNames() {
			want += counts[name]
		}
		checkCount(t, k.name(), impl.PositiveRoots(k.c), want)
		if got := sumOfNumbers(impl.ExponentsOf(k.c)); got != want {
			t.Error(k.name(), got)
		}
	}
}

// TestIsRootInBoxes asks for all lattice elements with small numbers.
func TestIsRootInBoxes(t *testing.T) {
	for _, k := range knownTypes() {
		if k.c.Rank == 4 && len(k.parts) > 1 {
			continue
		}
		roots, found := rootsBy(k.c), 0
		for _, x := range allVectors(9, k.c.Rank) {
			for i := range x {
				x[i] -= 4
			}
			_, want := roots[text(x)]
			if impl.IsRoot(k.c, x) != want {
				t.Error(k.name(), x)
			}
			if want {
				found++
			}
		}
		if found != len(roots) {
			t.Error(k.name(), found)
		}
	}
}

func TestIsRoot(t *testing.T) {
	for _, k := range reorderedTypes() {
		for _, x := range rootsBy(k.c) {
			if !impl.IsRoot(k.c, x) || !impl.IsRoot(k.c, stepped(x, -2, x)) || impl.IsRoot(k.c, stepped(x, 1, x)) {
				t.Error(k.c, x)
			}
			if impl.IsRoot(k.c, append(slices.Clone(x), 0)) || impl.IsRoot(k.c, x[1:]) {
				t.Error(k.c, x)
			}
		}
		for _, x := range noRootsOf(k.c) {
			if impl.IsRoot(k.c, x) {
				t.Error(k.c, x)
			}
		}
	}
	for _, n := range []int{math.MinInt, math.MaxInt, 1<<32 + 1, -1<<32 - 1} {
		if impl.IsRoot(cartanNamed(t, "A1"), []int{n}) {
			t.Error(n)
		}
	}
}

func TestRootsOfSeveralParts(t *testing.T) {
	for _, k := range knownTypes() {
		first := 0
		for _, part := range k.parts {
			alone := impl.Cartan{Rank: part.rank(), Data: part.data}
			for _, x := range impl.PositiveRoots(alone) {
				whole := make([]int, k.c.Rank)
				copy(whole[first:], x)
				if !impl.IsRoot(k.c, whole) {
					t.Error(k.name(), whole)
				}
				other := (first + part.rank()) % k.c.Rank
				whole[other]++
				if len(k.parts) > 1 && impl.IsRoot(k.c, whole) {
					t.Error(k.name(), whole)
				}
			}
			first += part.rank()
		}
	}
}

func TestExamplesOfHighestRoots(t *testing.T) {
	for _, part := range knownParts() {
		k := joinedType([]knownPart{part})
		for _, order := range ordersOf(part.rank()) {
			var want []int
			for _, i := range order {
				want = append(want, part.highest[i])
			}
			got, ok := impl.HighestRoot(k.reordered(order).c)
			if !ok {
				t.Error(part.name, order)
			}
			mustVector(t, part.name, got, want)
		}
	}
}

func TestHighestRootFailsForSeveralParts(t *testing.T) {
	for _, k := range reorderedTypes() {
		got, ok := impl.HighestRoot(k.c)
		if ok != (len(k.parts) == 1) || ok == (len(got) == 0) {
			t.Error(k.c, got, ok)
		}
	}
}

// TestHighestRootIsAboveAll says that it has no root above it, and is nowhere below a root.
func TestHighestRootIsAboveAll(t *testing.T) {
	for _, k := range reorderedTypes() {
		highest, ok := impl.HighestRoot(k.c)
		if !ok {
			continue
		}
		for _, x := range impl.PositiveRoots(k.c) {
			if impl.IsRoot(k.c, stepped(highest, 1, x)) || slices.Min(stepped(highest, -1, x)) < 0 {
				t.Error(k.c, highest, x)
			}
		}
	}
}

func TestExamplesOfExponents(t *testing.T) {
	for _, k := range reorderedTypes() {
		mustVector(t, k.name(), impl.ExponentsOf(k.c), k.exponents())
	}
	mustVector(t, "A1+G2", impl.ExponentsOf(cartanNamed(t, "G2+A1")), []int{1, 1, 5})
	mustVector(t, "A2+B2", impl.ExponentsOf(cartanNamed(t, "B2+A2")), []int{1, 1, 2, 3})
}

// TestExponentsByDefinition counts the roots of each height.
func TestExponentsByDefinition(t *testing.T) {
	for _, k := range reorderedTypes() {
		counts := map[int]int{}
		for _, x := range positiveBy(k.c) {
			counts[sumOfNumbers(x)]++
		}
		var want []int
		for m := range 20 {
			for range counts[m] - counts[m+1] {
				want = append(want, m)
			}
		}
		mustVector(t, k.name(), impl.ExponentsOf(k.c), want)
		if len(want) != k.c.Rank {
			t.Error(k.name(), want)
		}
	}
}
