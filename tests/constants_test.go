package tests

import (
	"math/rand/v2"
	"slices"
	"testing"

	"loop.example/g03109/impl"
)

func TestExamplesOfConstants(t *testing.T) {
	for _, e := range []struct {
		name string
		x, y []int
		want int
	}{
		{"A1", []int{1}, []int{-1}, 0},
		{"A1", []int{1}, []int{1}, 0},
		{"A2", []int{1, 0}, []int{0, 1}, 1},
		{"A2", []int{0, 1}, []int{1, 0}, -1},
		{"A2", []int{-1, 0}, []int{0, -1}, -1},
		{"A2", []int{1, 1}, []int{-1, 0}, -1},
		{"A2", []int{1, 1}, []int{0, -1}, 1},
		{"A2", []int{1, 0}, []int{1, 1}, 0},
		{"A2", []int{1, 1}, []int{-1, -1}, 0},
		{"A1+A1", []int{1, 0}, []int{0, 1}, 0},
		{"A1+A1", []int{1, 0}, []int{0, -1}, 0},
		{"A3", []int{1, 1, 0}, []int{0, 0, 1}, 1},
		{"A3", []int{1, 0, 0}, []int{0, 1, 1}, 1},
		{"B2", []int{1, 0}, []int{0, 1}, 1},
		{"B2", []int{0, 1}, []int{1, 1}, 2},
		{"B2", []int{1, 1}, []int{0, 1}, -2},
		{"B2", []int{1, 2}, []int{0, -1}, -1},
		{"B2", []int{1, 2}, []int{-1, -1}, 1},
		{"B2", []int{1, 1}, []int{0, -1}, 2},
		{"B2", []int{1, 1}, []int{-1, 0}, -1},
		// The quotient by n((3, 2)), which is 3, is 1 for a constant of 3, and a third for one of 1.
		{"G2", []int{1, 0}, []int{0, 1}, 1},
		{"G2", []int{1, 0}, []int{1, 1}, 2},
		{"G2", []int{1, 0}, []int{2, 1}, 3},
		{"G2", []int{0, 1}, []int{3, 1}, 1},
		{"G2", []int{1, 1}, []int{2, 1}, -3},
		{"G2", []int{2, 1}, []int{1, 1}, 3},
		{"G2", []int{3, 2}, []int{-1, -1}, 1},
		{"G2", []int{3, 2}, []int{-2, -1}, -1},
		{"G2", []int{3, 2}, []int{-3, -1}, 1},
		{"G2", []int{3, 1}, []int{-1, 0}, -1},
		{"G2", []int{2, 1}, []int{-1, 0}, -2},
		{"G2", []int{1, 0}, []int{3, 1}, 0},
		{"A1+A2", []int{0, 1, 0}, []int{0, 0, 1}, 1},
		{"D4", []int{1, 1, 1, 1}, []int{0, 1, 0, 0}, -1},
		{"F4", []int{0, 0, 1, 0}, []int{0, 1, 1, 0}, 2},
		{"F4", []int{1, 0, 0, 0}, []int{1, 3, 4, 2}, 1},
	} {
		if got := impl.ConstantOf(cartanNamed(t, e.name), e.x, e.y); got != e.want {
			t.Error(e.name, e.x, e.y, got)
		}
	}
}

// TestConstantsOfPairs also says that each constant is one more than the number of roots below, but for its sign.
func TestConstantsOfPairs(t *testing.T) {
	for _, r := range rootTables() {
		for i := range r.roots {
			for j := range r.roots {
				n, size := r.n[i][j], 0
				if r.sum(i, j) >= 0 {
					size = 1 + r.below(i, j)
				}
				if n != size && n != -size {
					t.Error(r.c, r.roots[i], r.roots[j], n)
				}
				if r.n[j][i] != -n || r.n[r.opposite(i)][r.opposite(j)] != -n {
					t.Error(r.c, r.roots[i], r.roots[j], n)
				}
			}
		}
	}
}

// TestConstantsOfThree multiplies both sides by the numbers that divide them.
func TestConstantsOfThree(t *testing.T) {
	for _, r := range rootTables() {
		for i := range r.roots {
			for j := range r.roots {
				z := r.sum(i, j)
				if z < 0 {
					continue
				}
				k := r.opposite(z)
				if r.n[i][j]*r.half[i] != r.n[j][k]*r.half[k] || r.n[i][j]*r.half[j] != r.n[k][i]*r.half[k] {
					t.Error(r.c, r.roots[i], r.roots[j], r.roots[k])
				}
			}
		}
	}
}

func TestConstantsOfFirstPairs(t *testing.T) {
	for _, r := range rootTables() {
		found := 0
	sums:
		for z := range r.positive() {
			for x := range r.positive() {
				y := r.sum(z, r.opposite(x))
				if y < 0 || y >= r.positive() {
					continue
				}
				if r.n[x][y] != 1+r.below(x, y) {
					t.Error(r.c, r.roots[x], r.roots[y], r.n[x][y])
				}
				found++
				continue sums
			}
		}
		if found != r.positive()-r.c.Rank {
			t.Error(r.c, found)
		}
	}
}

// TestConstantsOfFour asks for all fours of roots; of large types that are not in their usual order it asks for some.
func TestConstantsOfFour(t *testing.T) {
	rnd := newRandom(700)
	for i, r := range rootTables() {
		if i < 45 || len(r.roots) <= 18 {
			r.allFours(func(places [4]int) { r.checkFour(t, places) })
		} else {
			r.someFours(rnd, func(places [4]int) { r.checkFour(t, places) })
		}
	}
}

// allFours calls f for all fours of roots with the sum 0 no two of which have the sum 0.
func (r *rootTable) allFours(f func(places [4]int)) {
	for i := range r.roots {
		for j := range r.roots {
			for k := range r.roots {
				r.four(i, j, k, f)
			}
		}
	}
}

func (r *rootTable) someFours(rnd *rand.Rand, f func(places [4]int)) {
	for range 3000 {
		n := len(r.roots)
		r.four(rnd.IntN(n), rnd.IntN(n), rnd.IntN(n), f)
	}
}

func (r *rootTable) four(i, j, k int, f func(places [4]int)) {
	if r.opposite(i) == j || r.opposite(i) == k || r.opposite(j) == k {
		return
	}
	if z := r.sum(i, j, k); z >= 0 && z != i && z != j && z != k {
		f([4]int{i, j, k, r.opposite(z)})
	}
}

// checkFour takes the quotients times 6, which are integers since they are by 1, 2 or 3.
func (r *rootTable) checkFour(t *testing.T, q [4]int) {
	t.Helper()
	sum := 0
	for _, o := range [3][4]int{{0, 1, 2, 3}, {1, 2, 0, 3}, {2, 0, 1, 3}} {
		a, b, c, d := q[o[0]], q[o[1]], q[o[2]], q[o[3]]
		if z := r.sum(a, b); z >= 0 {
			sum += r.n[a][b] * r.n[c][d] * 6 / r.half[z]
		}
	}
	if sum != 0 {
		t.Error(r.c, r.roots[q[0]], r.roots[q[1]], r.roots[q[2]], r.roots[q[3]], sum)
	}
}

// TestFours says that there are fours of which three, two and one sums are roots, so that the rule is asked in all its forms.
func TestFours(t *testing.T) {
	counts := map[int]int{}
	for _, r := range rootTables()[:45] {
		r.allFours(func(q [4]int) {
			sums := 0
			for _, pair := range [3][2]int{{0, 1}, {1, 2}, {2, 0}} {
				if r.sum(q[pair[0]], q[pair[1]]) >= 0 {
					sums++
				}
			}
			counts[sums]++
		})
	}
	if counts[2] == 0 || counts[3] == 0 || counts[1] != 0 {
		t.Error(counts)
	}
}

func TestConstantsOfNoRoots(t *testing.T) {
	for _, k := range reorderedTypes() {
		good := unitVector(k.c.Rank, 0)
		for _, x := range noRootsOf(k.c) {
			if impl.ConstantOf(k.c, x, good) != 0 || impl.ConstantOf(k.c, good, x) != 0 || impl.ConstantOf(k.c, x, x) != 0 {
				t.Error(k.c, x)
			}
		}
	}
	// The first two are no roots, but their sums with the other ones are.
	for _, x := range [][]int{{1, -1}, {2, 0}, {0, 0}} {
		for _, y := range [][]int{{0, 1}, {-1, 0}, {1, 1}} {
			if impl.ConstantOf(cartanNamed(t, "A2"), x, y) != 0 || impl.ConstantOf(cartanNamed(t, "A2"), y, x) != 0 {
				t.Error(x, y)
			}
		}
	}
	if impl.ConstantOf(cartanNamed(t, "A2"), []int{1, 0, 0}, []int{0, 1, 0}) != 0 || impl.ConstantOf(cartanNamed(t, "A4"), []int{1}, []int{0, 1}) != 0 {
		t.Error("lists of another length")
	}
}

// TestConstantsOfParts says that they are those of the part alone, and 0 for roots of different parts.
func TestConstantsOfParts(t *testing.T) {
	for _, r := range rootTables()[:45] {
		first := 0
		for _, part := range r.parts {
			alone := joinedType([]knownPart{part})
			inside := func(x []int) bool {
				return slices.ContainsFunc(x[first:first+part.rank()], func(n int) bool { return n != 0 })
			}
			for i, x := range r.roots {
				for j, y := range r.roots {
					want := 0
					if inside(x) && inside(y) {
						want = impl.ConstantOf(alone.c, x[first:first+part.rank()], y[first:first+part.rank()])
					} else if !inside(x) && !inside(y) {
						continue
					}
					if r.n[i][j] != want {
						t.Error(r.name(), x, y, r.n[i][j], want)
					}
				}
			}
			first += part.rank()
		}
	}
}
