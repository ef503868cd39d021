package tests

import (
	"slices"
	"testing"

	"loop.example/g03109/impl"
)

// eachType has some lattice elements for each Cartan matrix, among them its roots and those with the greatest numbers.
// Of the many matrices of rank 4 it has a third, to save time.
func eachType(seed uint64, f func(k knownType, roots [][]int, elements [][]int)) {
	r := newRandom(seed)
	for i, k := range reorderedTypes() {
		if k.c.Rank == 4 && i%3 != 0 {
			continue
		}
		positive := positiveBy(k.c)
		var roots, elements [][]int
		for _, x := range positive {
			roots = append(roots, x, stepped(x, -2, x))
		}
		for range 4 {
			elements = append(elements, randomLattice(r, k.c.Rank))
		}
		for _, n := range []int{0, 1000, -1000} {
			elements = append(elements, slices.Repeat([]int{n}, k.c.Rank))
		}
		f(k, roots, slices.Concat(roots, elements))
	}
}

func TestExamplesOfWeights(t *testing.T) {
	for _, e := range []struct {
		name    string
		x, want []int
	}{
		{"A1", []int{1}, []int{2}},
		{"A1", []int{1000}, []int{2000}},
		{"A2", []int{1, 1}, []int{1, 1}},
		{"B2", []int{1, 0}, []int{2, -2}},
		{"B2", []int{0, 1}, []int{-1, 2}},
		{"B2", []int{1, 2}, []int{0, 2}},
		{"G2", []int{0, 1}, []int{-3, 2}},
		{"G2", []int{3, 2}, []int{0, 1}},
		{"C3", []int{2, 2, 1}, []int{2, 0, 0}},
		{"F4", []int{2, 3, 4, 2}, []int{1, 0, 0, 0}},
		{"D4", []int{1, 2, 1, 1}, []int{0, 1, 0, 0}},
		{"A1+B2", []int{-1000, 1000, -1000}, []int{-2000, 3000, -4000}},
	} {
		mustVector(t, e.name, impl.WeightOf(cartanNamed(t, e.name), e.x), e.want)
	}
}

func TestWeightsByDefinition(t *testing.T) {
	eachType(200, func(k knownType, roots [][]int, elements [][]int) {
		for _, x := range elements {
			mustVector(t, k.name(), impl.WeightOf(k.c, x), weightBy(k.c, x))
		}
		for i := range k.c.Rank {
			for j, n := range impl.WeightOf(k.c, unitVector(k.c.Rank, i)) {
				if n != entry(k.c, j, i) {
					t.Error(k.c, i, j, n)
				}
			}
		}
	})
}

func TestExamplesOfInner(t *testing.T) {
	for _, e := range []struct {
		name string
		x, y []int
		want int
	}{
		{"A1", []int{1}, []int{1}, 2},
		{"A2", []int{1, 0}, []int{0, 1}, -1},
		{"B2", []int{1, 0}, []int{1, 0}, 4},
		{"B2", []int{0, 1}, []int{0, 1}, 2},
		{"B2", []int{1, 0}, []int{0, 1}, -2},
		{"G2", []int{1, 0}, []int{1, 0}, 2},
		{"G2", []int{0, 1}, []int{0, 1}, 6},
		{"G2", []int{1, 0}, []int{0, 1}, -3},
		{"C3", []int{0, 1, 0}, []int{0, 0, 1}, -2},
		{"C3", []int{0, 0, 1}, []int{0, 0, 1}, 4},
		{"F4", []int{0, 1, 0, 0}, []int{0, 0, 1, 0}, -2},
		{"F4", []int{1, 0, 0, 0}, []int{1, 0, 0, 0}, 4},
		{"F4", []int{0, 0, 0, 1}, []int{0, 0, 0, 1}, 2},
		{"A1+G2", []int{1, 0, 1}, []int{1, 1, 0}, -1},
		{"A1", []int{1000}, []int{-1000}, -2000000},
		{"G2", []int{1000, -1000}, []int{1000, -1000}, 14000000},
	} {
		if got := impl.InnerOf(cartanNamed(t, e.name), e.x, e.y); got != e.want {
			t.Error(e.name, e.x, e.y, got)
		}
	}
}

func TestInnerByDefinition(t *testing.T) {
	eachType(201, func(k knownType, roots [][]int, elements [][]int) {
		for i, x := range elements {
			for _, y := range elements[i%3:] {
				got := impl.InnerOf(k.c, x, y)
				if got != innerBy(k, x, y) || got != impl.InnerOf(k.c, y, x) {
					t.Error(k.c, x, y, got)
				}
			}
			if norm := impl.InnerOf(k.c, x, x); (norm <= 0) != zeroVector(x) {
				t.Error(k.c, x, norm)
			}
		}
	})
}

// TestLengthsOfRoots says that a root is as long as some simple root of its part.
func TestLengthsOfRoots(t *testing.T) {
	eachType(202, func(k knownType, roots [][]int, elements [][]int) {
		for _, x := range roots {
			var lengths []int
			for i, n := range x {
				if n != 0 {
					lengths = append(lengths, 2*k.lengths[i])
				}
			}
			if norm := impl.InnerOf(k.c, x, x); !slices.Contains(lengths, norm) {
				t.Error(k.c, x, norm)
			}
		}
	})
}

func TestExamplesOfPairs(t *testing.T) {
	for _, e := range []struct {
		name string
		x, r []int
		want int
	}{
		{"A1", []int{1}, []int{1}, 2},
		{"A1", []int{-1}, []int{1}, -2},
		{"A1", []int{1000}, []int{-1}, -2000},
		{"B2", []int{1, 0}, []int{0, 1}, -2},
		{"B2", []int{0, 1}, []int{1, 0}, -1},
		{"B2", []int{1, 0}, []int{1, 1}, 2},
		{"B2", []int{1, 1}, []int{1, 0}, 1},
		{"G2", []int{0, 1}, []int{1, 0}, -3},
		{"G2", []int{1, 0}, []int{0, 1}, -1},
		{"C3", []int{0, 0, 1}, []int{0, 1, 0}, -2},
		{"C3", []int{0, 1, 0}, []int{0, 0, 1}, -1},
		{"F4", []int{0, 1, 0, 0}, []int{0, 0, 1, 0}, -2},
		{"F4", []int{0, 0, 1, 0}, []int{0, 1, 0, 0}, -1},
		{"A1+A1", []int{1, 5}, []int{1, 0}, 2},
	} {
		if got := impl.PairOf(cartanNamed(t, e.name), e.x, e.r); got != e.want {
			t.Error(e.name, e.x, e.r, got)
		}
	}
}

func TestPairsByDefinition(t *testing.T) {
	eachType(203, func(k knownType, roots [][]int, elements [][]int) {
		for _, r := range roots {
			for _, x := range elements {
				if got := impl.PairOf(k.c, x, r); got*innerBy(k, r, r) != 2*innerBy(k, x, r) {
					t.Error(k.c, x, r, got)
				}
			}
		}
		for i := range k.c.Rank {
			for _, x := range elements {
				if got := impl.PairOf(k.c, x, unitVector(k.c.Rank, i)); got != weightBy(k.c, x)[i] {
					t.Error(k.c, x, i, got)
				}
			}
		}
	})
}

func TestExamplesOfCoroots(t *testing.T) {
	for _, e := range []struct {
		name    string
		r, want []int
	}{
		{"A1", []int{-1}, []int{-1}},
		{"A2", []int{1, 1}, []int{1, 1}},
		{"B2", []int{1, 1}, []int{2, 1}},
		{"B2", []int{1, 2}, []int{1, 1}},
		{"B2", []int{0, 1}, []int{0, 1}},
		{"G2", []int{1, 1}, []int{1, 3}},
		{"G2", []int{3, 2}, []int{1, 2}},
		{"G2", []int{-2, -1}, []int{-2, -3}},
		{"C3", []int{2, 2, 1}, []int{1, 1, 1}},
		{"C3", []int{1, 2, 1}, []int{1, 2, 2}},
		{"F4", []int{2, 3, 4, 2}, []int{2, 3, 2, 1}},
		{"F4", []int{1, 2, 3, 2}, []int{2, 4, 3, 2}},
	} {
		mustVector(t, e.name, impl.CorootOf(cartanNamed(t, e.name), e.r), e.want)
	}
}

// TestCorootsByDefinition also says that pairing with a root is adding up the weight by its coroot, and that coroots are
// the roots of the transposed matrix.
func TestCorootsByDefinition(t *testing.T) {
	eachType(204, func(k knownType, roots [][]int, elements [][]int) {
		turned := impl.Cartan{Rank: k.c.Rank}
		for i := range k.c.Rank {
			for j := range k.c.Rank {
				turned.Data = append(turned.Data, entry(k.c, j, i))
			}
		}
		for _, r := range roots {
			coroot := impl.CorootOf(k.c, r)
			if len(coroot) != k.c.Rank || !impl.IsRoot(turned, coroot) {
				t.Fatal(k.c, r, coroot)
			}
			for i, n := range coroot {
				if n*innerBy(k, r, r) != 2*r[i]*k.lengths[i] {
					t.Error(k.c, r, coroot)
				}
			}
			for _, x := range elements {
				sum := 0
				for i, n := range weightBy(k.c, x) {
					sum += coroot[i] * n
				}
				if sum != impl.PairOf(k.c, x, r) {
					t.Error(k.c, x, r, sum)
				}
			}
		}
	})
}

func TestExamplesOfReflections(t *testing.T) {
	for _, e := range []struct {
		name       string
		r, x, want []int
	}{
		{"A1", []int{1}, []int{1}, []int{-1}},
		{"A1", []int{-1}, []int{1000}, []int{-1000}},
		{"A2", []int{1, 0}, []int{0, 1}, []int{1, 1}},
		{"A2", []int{1, 1}, []int{1, 0}, []int{0, -1}},
		{"B2", []int{0, 1}, []int{1, 0}, []int{1, 2}},
		{"B2", []int{1, 0}, []int{0, 1}, []int{1, 1}},
		{"G2", []int{1, 0}, []int{0, 1}, []int{3, 1}},
		{"G2", []int{0, 1}, []int{1, 0}, []int{1, 1}},
		{"G2", []int{1, 0}, []int{-1000, 1000}, []int{4000, 1000}},
		{"A1+A1", []int{0, -1}, []int{7, 5}, []int{7, -5}},
		{"F4", []int{0, 0, 1, 0}, []int{0, 1, 0, 0}, []int{0, 1, 2, 0}},
		{"C3", []int{0, 0, 1}, []int{0, 1, 0}, []int{0, 1, 1}},
	} {
		mustVector(t, e.name, impl.ReflectBy(cartanNamed(t, e.name), e.r, e.x), e.want)
	}
}

func TestReflectionsPermuteRoots(t *testing.T) {
	eachType(205, func(k knownType, roots [][]int, elements [][]int) {
		for _, r := range roots {
			seen := map[string]bool{}
			for _, x := range roots {
				y := impl.ReflectBy(k.c, r, x)
				if !impl.IsRoot(k.c, y) || seen[text(y)] {
					t.Error(k.c, r, x, y)
				}
				seen[text(y)] = true
			}
		}
	})
}

// TestLawsOfReflections says that a reflection takes its root to the negative, keeps what is orthogonal, and undoes itself.
func TestLawsOfReflections(t *testing.T) {
	eachType(206, func(k knownType, roots [][]int, elements [][]int) {
		for _, r := range roots {
			mustVector(t, k.name(), impl.ReflectBy(k.c, r, r), stepped(r, -2, r))
			for i, x := range elements[max(0, len(elements)-12):] {
				y := impl.ReflectBy(k.c, r, x)
				mustVector(t, k.name(), y, stepped(x, -impl.PairOf(k.c, x, r), r))
				mustVector(t, k.name(), y, impl.ReflectBy(k.c, stepped(r, -2, r), x))
				if slices.Max(y) <= 1000 && slices.Min(y) >= -1000 {
					mustVector(t, k.name(), impl.ReflectBy(k.c, r, y), x)
				}
				if impl.InnerOf(k.c, x, r) == 0 {
					mustVector(t, k.name(), y, x)
				}
				other := elements[(i+7)%len(elements)]
				if innerBy(k, y, impl.ReflectBy(k.c, r, other)) != innerBy(k, x, other) {
					t.Error(k.c, r, x, other)
				}
			}
		}
		for i := range k.c.Rank {
			for _, x := range elements {
				mustVector(t, k.name(), impl.ReflectBy(k.c, unitVector(k.c.Rank, i), x), reflectedBy(k.c, i, x))
			}
		}
	})
}

func checkString(t *testing.T, c impl.Cartan, r []int, x []int, wantP int, wantQ int) {
	t.Helper()
	if p, q := impl.RootString(c, r, x); p != wantP || q != wantQ {
		t.Error(c, r, x, p, q)
	}
}

func TestExamplesOfStrings(t *testing.T) {
	for _, e := range []struct {
		name string
		r, x []int
		p, q int
	}{
		{"A2", []int{1, 0}, []int{0, 1}, 0, 1},
		{"A2", []int{-1, 0}, []int{0, 1}, 1, 0},
		{"A2", []int{1, 0}, []int{1, 1}, 1, 0},
		{"B2", []int{0, 1}, []int{1, 0}, 0, 2},
		{"B2", []int{0, 1}, []int{1, 1}, 1, 1},
		{"B2", []int{1, 0}, []int{0, 1}, 0, 1},
		{"G2", []int{1, 0}, []int{0, 1}, 0, 3},
		{"G2", []int{1, 0}, []int{2, 1}, 2, 1},
		{"G2", []int{1, 0}, []int{3, 1}, 3, 0},
		{"G2", []int{1, 0}, []int{3, 2}, 0, 0},
		{"G2", []int{0, 1}, []int{1, 0}, 0, 1},
		{"G2", []int{-1, 0}, []int{-1, -1}, 1, 2},
		{"A1+A1", []int{1, 0}, []int{0, 1}, 0, 0},
		{"A1+A1", []int{1, 0}, []int{0, -1}, 0, 0},
		{"C3", []int{0, 1, 0}, []int{0, 0, 1}, 0, 2},
		{"F4", []int{0, 0, 1, 0}, []int{0, 1, 0, 0}, 0, 2},
		{"A1", []int{1}, []int{1}, -1, -1},
		{"A1", []int{1}, []int{-1}, -1, -1},
		{"A1", []int{-1}, []int{1}, -1, -1},
		{"B2", []int{1, 2}, []int{1, 2}, -1, -1},
		{"B2", []int{1, 2}, []int{-1, -2}, -1, -1},
		{"B2", []int{1, 2}, []int{0, 0}, -1, -1},
		{"B2", []int{0, 0}, []int{1, 2}, -1, -1},
		{"B2", []int{2, 2}, []int{1, 2}, -1, -1},
		{"B2", []int{1}, []int{1, 2}, -1, -1},
		{"B2", []int{1, 2}, []int{1}, -1, -1},
		{"B2", nil, nil, -1, -1},
	} {
		checkString(t, cartanNamed(t, e.name), e.r, e.x, e.p, e.q)
	}
}

// TestStringsByDefinition also says that the difference of both numbers is that of the pair, and their sum 3 at most.
func TestStringsByDefinition(t *testing.T) {
	eachType(207, func(k knownType, roots [][]int, elements [][]int) {
		all := rootsBy(k.c)
		along := func(x []int, step int, r []int) int {
			n := 0
			for all[text(stepped(x, (n+1)*step, r))] != nil {
				n++
			}
			return n
		}
		for _, r := range roots {
			for _, x := range roots {
				if slices.Equal(x, r) || zeroVector(stepped(x, 1, r)) {
					checkString(t, k.c, r, x, -1, -1)
					continue
				}
				p, q := impl.RootString(k.c, r, x)
				if p != along(x, -1, r) || q != along(x, 1, r) || p-q != impl.PairOf(k.c, x, r) || p+q > 3 {
					t.Error(k.c, r, x, p, q)
				}
			}
		}
	})
}

// TestNoLatticeElementsAndNoRoots has for each function the lists that it does not take.
func TestNoLatticeElementsAndNoRoots(t *testing.T) {
	for _, k := range reorderedTypes() {
		good := unitVector(k.c.Rank, k.c.Rank-1)
		for _, x := range noLattice(k.c.Rank) {
			if len(impl.WeightOf(k.c, x)) != 0 || len(impl.ReflectBy(k.c, good, x)) != 0 {
				t.Error(k.c, x)
			}
			if impl.InnerOf(k.c, x, good) != 0 || impl.InnerOf(k.c, good, x) != 0 || impl.InnerOf(k.c, x, x) != 0 || impl.PairOf(k.c, x, good) != 0 {
				t.Error(k.c, x)
			}
		}
		for _, r := range noRootsOf(k.c) {
			if impl.PairOf(k.c, good, r) != 0 || len(impl.CorootOf(k.c, r)) != 0 || len(impl.ReflectBy(k.c, r, good)) != 0 || len(impl.ReflectBy(k.c, r, r)) != 0 {
				t.Error(k.c, r)
			}
			checkString(t, k.c, r, good, -1, -1)
			checkString(t, k.c, good, r, -1, -1)
			checkString(t, k.c, r, r, -1, -1)
		}
	}
}

// TestGreatestLatticeElements has numbers of 1000, and of one more.
func TestGreatestLatticeElements(t *testing.T) {
	for _, k := range reorderedTypes() {
		r := unitVector(k.c.Rank, 0)
		for i := range k.c.Rank {
			for _, n := range []int{1000, -1000} {
				x := stepped(make([]int, k.c.Rank), n, unitVector(k.c.Rank, i))
				beyond := stepped(x, n/1000, unitVector(k.c.Rank, i))
				mustVector(t, k.name(), impl.WeightOf(k.c, x), weightBy(k.c, x))
				mustVector(t, k.name(), impl.ReflectBy(k.c, r, x), reflectedBy(k.c, 0, x))
				mustVector(t, k.name(), impl.WeightOf(k.c, beyond), nil)
				mustVector(t, k.name(), impl.ReflectBy(k.c, r, beyond), nil)
				if impl.InnerOf(k.c, x, x) != innerBy(k, x, x) || impl.PairOf(k.c, x, r) != weightBy(k.c, x)[0] || impl.InnerOf(k.c, x, x) == 0 {
					t.Error(k.c, x)
				}
				if impl.InnerOf(k.c, beyond, x) != 0 || impl.InnerOf(k.c, x, beyond) != 0 || impl.PairOf(k.c, beyond, r) != 0 {
					t.Error(k.c, beyond)
				}
			}
		}
	}
}
