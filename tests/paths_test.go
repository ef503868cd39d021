package tests

import (
	"math"
	"math/rand/v2"
	"slices"
	"testing"

	"loop.example/g03109/impl"
)

func TestConstantsOfPaths(t *testing.T) {
	if impl.PathLength != full || impl.MaxSteps != 60 {
		t.Error(impl.PathLength, impl.MaxSteps)
	}
}

func checkPathOk(t *testing.T, c impl.Cartan, p []impl.Step, want bool) {
	t.Helper()
	if impl.PathOk(c, p) != want {
		t.Error(c, p, !want)
	}
}

func TestExamplesOfPaths(t *testing.T) {
	for _, e := range []struct {
		name string
		p    []impl.Step
		want bool
	}{
		{"A1", nil, true},
		{"A1", pathOf(), true},
		{"A1", pathOf(goes(full, 0)), true},
		{"A1", pathOf(goes(full, -5)), true},
		{"A1", pathOf(goes(2*full, 1)), true},
		{"A1", pathOf(goes(3*full, 1)), true},
		{"A1", pathOf(goes(4*full, 1)), false},
		{"A1", pathOf(goes(full-1, 1)), false},
		{"A1", pathOf(goes(full+1, 1)), false},
		{"A1", pathOf(goes(3*full+1, 1)), false},
		{"A1", pathOf(goes(1, 1)), false},
		{"A1", pathOf(goes(1, 1), goes(full-1, 2)), true},
		{"A1", pathOf(goes(1, 1), goes(full-2, 2)), false},
		{"A1", pathOf(goes(full, 1), goes(full, 2), goes(full, 1)), true},
		{"A1", pathOf(goes(full, 1), goes(full, 2), goes(full, 1), goes(full, 2)), false},
		{"A1", pathOf(goes(full/2, 1), goes(full/2, -1), goes(full/2, 1), goes(3*full/2, 0)), true},
		// Neighbours with the same Way.
		{"A1", pathOf(goes(full, 1), goes(full, 1)), false},
		{"A1", pathOf(goes(full, 0), goes(full, 1), goes(full, 1)), false},
		{"A2", pathOf(goes(full, 1, 0), goes(full, 1, 0)), false},
		{"A2", pathOf(goes(full, 1, 0), goes(full, 1, 1)), true},
		{"A2", pathOf(goes(full, 1, 0), goes(full, 0, 0)), true},
		// A Len of 0 and below.
		{"A1", pathOf(goes(0, 1)), false},
		{"A1", pathOf(goes(full, 1), goes(0, 2)), false},
		{"A1", pathOf(goes(0, 2), goes(full, 1)), false},
		{"A1", pathOf(goes(full, 1), goes(-full, 2)), false},
		{"A1", pathOf(goes(2*full, 1), goes(-full, 2)), false},
		{"A1", pathOf(goes(-1, 1), goes(full+1, 2)), false},
		{"A1", pathOf(goes(math.MinInt, 1)), false},
		// Sums beyond 64 bits.
		{"A1", pathOf(goes(math.MaxInt, 1), goes(math.MaxInt, 2), goes(full+2, 1)), false},
		{"A1", pathOf(goes(full, 2), goes(math.MaxInt, 1), goes(math.MaxInt, 2), goes(2, 1)), false},
		{"A1", pathOf(goes(math.MinInt, 1), goes(math.MinInt, 2), goes(full, 1)), false},
		{"A1", pathOf(goes(math.MaxInt-math.MaxInt%full, 1)), false},
		// Ways that are no weights.
		{"A1", pathOf(goes(full, 1000)), true},
		{"A1", pathOf(goes(full, -1000)), true},
		{"A1", pathOf(goes(full, 1001)), false},
		{"A1", pathOf(goes(full, -1001)), false},
		{"A1", pathOf(goes(full)), false},
		{"A1", pathOf(goes(full, 1, 0)), false},
		{"A2", pathOf(goes(full, 1)), false},
		{"A2", pathOf(goes(full, 1, 0, 0)), false},
		{"A2", pathOf(goes(full, 1, 0), goes(full, 1001, 0)), false},
	} {
		checkPathOk(t, cartanNamed(t, e.name), e.p, e.want)
	}
}

// TestPaths takes random paths, and what becomes of them by one change.
func TestPaths(t *testing.T) {
	counts := map[bool]int{}
	eachSomePath(900, func(r *rand.Rand, k knownType, p []impl.Step) {
		checkPathOk(t, k.c, p, validPath(k.c.Rank, p))
		for range 6 {
			q := copyPath(p)
			if len(q) == 0 {
				continue
			}
			place := r.IntN(len(q))
			switch r.IntN(4) {
			case 0:
				q[place].Len += []int{1, -1, full, -full, 2 * full, -q[place].Len}[r.IntN(6)]
			case 1:
				q[place].Way[0] += r.IntN(3) - 1
			case 2:
				q[place].Way = q[r.IntN(len(q))].Way
			case 3:
				q[place].Way[k.c.Rank-1] = []int{1000, 1001, -1000, -1001}[r.IntN(4)]
			}
			want := validPath(k.c.Rank, q)
			checkPathOk(t, k.c, q, want)
			counts[want]++
		}
	})
	if counts[true] < 500 || counts[false] < 500 {
		t.Error(counts)
	}
}

func TestLongestPaths(t *testing.T) {
	for _, k := range characterTypes() {
		for _, n := range []int{1, 2, 59, 60, 61, 62, 1000} {
			for times := 1; times <= 4; times++ {
				checkPathOk(t, k.c, windingPath(k.c.Rank, n, times*full), n <= 60 && times <= 3)
			}
		}
		for _, w := range noLattice(k.c.Rank) {
			checkPathOk(t, k.c, pathOf(goes(full, w...)), false)
			checkPathOk(t, k.c, pathOf(goes(full, unitVector(k.c.Rank, 0)...), goes(full, w...)), false)
		}
	}
}

func TestStraightPaths(t *testing.T) {
	r := newRandom(901)
	for _, k := range characterTypes() {
		for _, w := range someWeights(r, k.c.Rank) {
			got := impl.StraightPath(k.c, w)
			mustPath(t, w, got, true, pathOf(goes(full, w...)))
			checkPathOk(t, k.c, got, true)
			end, ok := impl.EndOf(k.c, got)
			mustEnd(t, got, end, ok, w, true)
		}
		for _, w := range noLattice(k.c.Rank) {
			mustPath(t, w, impl.StraightPath(k.c, w), true, nil)
		}
	}
}

func mustEnd(t *testing.T, what any, got []int, ok bool, want []int, can bool) {
	t.Helper()
	if ok != can || !slices.Equal(got, want) {
		t.Errorf("%v: %v %v, not %v %v", what, got, ok, want, can)
	}
}

func TestExamplesOfEnds(t *testing.T) {
	for _, e := range []struct {
		name string
		p    []impl.Step
		want []int
	}{
		{"A1", nil, []int{0}},
		{"F4", nil, []int{0, 0, 0, 0}},
		{"A1", pathOf(goes(full, 0)), []int{0}},
		{"A1", pathOf(goes(full, -7)), []int{-7}},
		{"A1", pathOf(goes(3*full, 1000)), []int{3000}},
		{"A1", pathOf(goes(3*full, -1000)), []int{-3000}},
		{"A1", pathOf(goes(full/2, 1), goes(full/2, -1)), []int{0}},
		{"A1", pathOf(goes(full/2, 3), goes(full/2, -1)), []int{1}},
		{"A1", pathOf(goes(1, 1000), goes(full-1, 1)), nil},
		{"A1", pathOf(goes(1, full/28+1), goes(full-1, 1)), nil},
		{"A1", pathOf(goes(28, 991), goes(full-28, 1)), []int{2}},
		{"A1", pathOf(goes(full/2, 1), goes(full/2, 0)), nil},
		{"A1", pathOf(goes(full/2, -1), goes(full/2, 0)), nil},
		// One of the numbers is no integer.
		{"A2", pathOf(goes(full/2, 1, 1), goes(full/2, 0, 1)), nil},
		{"A2", pathOf(goes(full/2, 1, 1), goes(full/2, 1, 0)), nil},
		{"A2", pathOf(goes(full/2, 1, 1), goes(full/2, 1, -1)), []int{1, 0}},
		{"A3", pathOf(goes(full/3, 1, 0, 3), goes(2*full/3, 1, 3, -3)), []int{1, 2, -1}},
	} {
		got, ok := impl.EndOf(cartanNamed(t, e.name), e.p)
		mustEnd(t, e, got, ok, e.want, e.want != nil)
	}
}

func TestEnds(t *testing.T) {
	counts := map[bool]int{}
	eachSomePath(902, func(_ *rand.Rand, k knownType, p []impl.Step) {
		want, can := endBy(k.c.Rank, p)
		got, ok := impl.EndOf(k.c, p)
		mustEnd(t, p, got, ok, want, can)
		counts[can]++
	})
	if counts[true] < 100 || counts[false] < 100 {
		t.Error(counts)
	}
}

func TestExamplesOfJoinedPaths(t *testing.T) {
	for _, e := range []struct {
		name       string
		p, q, want []impl.Step
		can        bool
	}{
		{"A1", nil, nil, nil, true},
		{"A1", pathOf(goes(full, 1)), nil, pathOf(goes(full, 1)), true},
		{"A1", nil, pathOf(goes(full, 1)), pathOf(goes(full, 1)), true},
		{"A1", pathOf(goes(full, 1)), pathOf(goes(full, 2)), pathOf(goes(full, 1), goes(full, 2)), true},
		// Neighbours become one.
		{"A1", pathOf(goes(full, 1)), pathOf(goes(full, 1)), pathOf(goes(2*full, 1)), true},
		{"A1", pathOf(goes(full, 0)), pathOf(goes(2*full, 0)), pathOf(goes(3*full, 0)), true},
		{"A1", pathOf(goes(1, 5), goes(full-1, 1)), pathOf(goes(3, 1), goes(full-3, 5)), pathOf(goes(1, 5), goes(full+2, 1), goes(full-3, 5)), true},
		{"A2", pathOf(goes(full, 1, 0)), pathOf(goes(full, 1, 1)), pathOf(goes(full, 1, 0), goes(full, 1, 1)), true},
		{"A2", pathOf(goes(full, 1, 0)), pathOf(goes(full, 0, 1)), pathOf(goes(full, 1, 0), goes(full, 0, 1)), true},
		// The result is too long.
		{"A1", pathOf(goes(2*full, 1)), pathOf(goes(2*full, 1)), nil, false},
		{"A1", pathOf(goes(full, 1)), pathOf(goes(3*full, 2)), nil, false},
		{"A1", pathOf(goes(2*full, 1)), pathOf(goes(full, 2)), pathOf(goes(2*full, 1), goes(full, 2)), true},
		{"A1", pathOf(goes(3*full, 1)), nil, pathOf(goes(3*full, 1)), true},
		// One is no path.
		{"A1", pathOf(goes(full/2, 1)), pathOf(goes(full/2, 1)), nil, false},
		{"A1", pathOf(goes(full, 1), goes(full, 1)), pathOf(goes(full, 1)), nil, false},
		{"A1", pathOf(goes(full, 1)), pathOf(goes(full, 1), goes(full, 1)), nil, false},
	} {
		got, ok := impl.JoinPaths(cartanNamed(t, e.name), e.p, e.q)
		mustPathIf(t, e, got, ok, e.want, e.can)
	}
}

// TestLongestJoinedPaths has the numbers of steps of both paths, and whether two steps between them become one.
func TestLongestJoinedPaths(t *testing.T) {
	for _, k := range pathTypes() {
		for _, e := range [][3]int{{30, 30, 60}, {59, 1, 59}, {58, 2, 60}, {29, 32, 60}, {30, 31, 61}, {59, 2, 60}, {59, 3, 61}, {60, 60, 120}, {1, 60, 60}, {2, 60, 62}} {
			p, q := windingPath(k.c.Rank, e[0], full), windingPath(k.c.Rank, e[1], full)
			steps := mergedBy(slices.Concat(p, q))
			got, ok := impl.JoinPaths(k.c, p, q)
			mustPathIf(t, e, got, ok, steps, e[2] <= 60)
			if len(steps) != e[2] {
				t.Error(e, len(steps))
			}
		}
	}
}

func TestJoinedPaths(t *testing.T) {
	counts := map[bool]int{}
	eachSomePath(903, func(r *rand.Rand, k knownType, p []impl.Step) {
		q := randomPath(r, k.c.Rank, 1+r.IntN(60), 1+r.IntN(3), 1)
		want := mergedBy(slices.Concat(p, q))
		can := validPath(k.c.Rank, want)
		got, ok := impl.JoinPaths(k.c, p, q)
		mustPathIf(t, k.name(), got, ok, want, can)
		counts[can]++
		got, ok = impl.JoinPaths(k.c, p, nil)
		mustPath(t, k.name(), got, ok, p)
		got, ok = impl.JoinPaths(k.c, nil, p)
		mustPath(t, k.name(), got, ok, p)
	})
	if counts[true] < 200 || counts[false] < 200 {
		t.Error(counts)
	}
}

func TestDualPaths(t *testing.T) {
	c := cartanNamed(t, "A2")
	got := impl.DualPath(c, pathOf(goes(1, 1, 0), goes(2, -5, 7), goes(full-3, 0, 0)))
	mustPath(t, "A2", got, true, pathOf(goes(full-3, 0, 0), goes(2, 5, -7), goes(1, -1, 0)))
	mustPath(t, "A2", impl.DualPath(c, nil), true, nil)
	mustPath(t, "A2", impl.DualPath(c, pathOf(goes(full, 1000, -1000))), true, pathOf(goes(full, -1000, 1000)))
	mustPath(t, "A2", impl.DualPath(c, pathOf(goes(1, 1, 0))), true, nil)
	eachSomePath(904, func(_ *rand.Rand, k knownType, p []impl.Step) {
		var want []impl.Step
		for _, s := range slices.Backward(p) {
			want = append(want, goes(s.Len, stepped(s.Way, -2, s.Way)...))
		}
		dual := impl.DualPath(k.c, p)
		mustPath(t, p, dual, true, want)
		mustPath(t, p, impl.DualPath(k.c, dual), true, p)
		end, ok := impl.EndOf(k.c, p)
		other, fine := impl.EndOf(k.c, dual)
		mustEnd(t, p, other, fine, stepped(end, -2, end), ok)
	})
}

func TestExamplesOfLowest(t *testing.T) {
	for _, e := range []struct {
		name string
		i    int
		p    []impl.Step
		want int
	}{
		{"A1", 0, nil, 0},
		{"A1", 0, pathOf(goes(full, 0)), 0},
		{"A1", 0, pathOf(goes(full, 3)), 0},
		{"A1", 0, pathOf(goes(full, -3)), -3 * full},
		{"A1", 0, pathOf(goes(3*full, -1000)), -3000 * full},
		{"A1", 0, pathOf(goes(1, -1), goes(full-1, 1)), -1},
		{"A1", 0, pathOf(goes(full-1, 1), goes(1, -1)), 0},
		{"A1", 0, pathOf(goes(1, 1), goes(full-1, -1)), 2 - full},
		{"A1", 0, pathOf(goes(5, 1), goes(7, -2), goes(full-12, 1)), -9},
		// The least height more than once, and along a step.
		{"A1", 0, pathOf(goes(5, -2), goes(5, 2), goes(5, -2), goes(full-15, 0)), -10},
		{"A2", 0, pathOf(goes(full, -2, -3)), -2 * full},
		{"A2", 1, pathOf(goes(full, -2, -3)), -3 * full},
		{"A2", 1, pathOf(goes(full, -2, 3)), 0},
		// There is no such row.
		{"A2", 2, pathOf(goes(full, -2, -3)), 0},
		{"A2", -1, pathOf(goes(full, -2, -3)), 0},
		{"A2", math.MinInt, pathOf(goes(full, -2, -3)), 0},
		{"A2", math.MaxInt, pathOf(goes(full, -2, -3)), 0},
		// No path.
		{"A2", 0, pathOf(goes(1, -2, -3)), 0},
		{"A2", 0, pathOf(goes(full, -2)), 0},
	} {
		if got := impl.LowestOf(cartanNamed(t, e.name), e.i, e.p); got != e.want {
			t.Error(e, got)
		}
	}
}

func TestLowest(t *testing.T) {
	eachSomePath(905, func(_ *rand.Rand, k knownType, p []impl.Step) {
		isDominant := true
		for i := range k.c.Rank {
			want := slices.Min(walkBy(i, p))
			if got := impl.LowestOf(k.c, i, p); got != want {
				t.Error(k.c, i, p, got, want)
			}
			isDominant = isDominant && want == 0
		}
		if impl.IsDominantPath(k.c, p) != isDominant {
			t.Error(k.c, p, !isDominant)
		}
		for _, i := range []int{-1, k.c.Rank, k.c.Rank + 1, math.MinInt, math.MaxInt} {
			if got := impl.LowestOf(k.c, i, p); got != 0 {
				t.Error(k.c, i, p, got)
			}
		}
	})
}

func TestDominantPaths(t *testing.T) {
	for _, e := range []struct {
		name string
		p    []impl.Step
		want bool
	}{
		{"A1", nil, true},
		{"A1", pathOf(goes(full, 0)), true},
		{"A1", pathOf(goes(full, 1)), true},
		{"A1", pathOf(goes(full, -1)), false},
		{"A1", pathOf(goes(full/2, 1), goes(full/2, -1)), true},
		{"A1", pathOf(goes(full/2, -1), goes(full/2, 1)), false},
		{"A1", pathOf(goes(1, -1), goes(full-1, 1)), false},
		{"A1", pathOf(goes(2, 1), goes(2, -2), goes(full-4, 1)), false},
		{"A1", pathOf(goes(2, 1), goes(1, -2), goes(full-3, 1)), true},
		{"A2", pathOf(goes(full, 1, 0)), true},
		{"A2", pathOf(goes(full, 1, -1)), false},
		{"A2", pathOf(goes(full, -1, 1)), false},
		{"A2", pathOf(goes(full, 1, 1), goes(full, -1, -1)), true},
		{"A2", pathOf(goes(full, 1, 1), goes(full, 1, -2)), false},
		{"F4", pathOf(goes(full, 0, 0, 0, 1), goes(full, 0, 0, 1, -1)), true},
		{"F4", pathOf(goes(full, 0, 0, 0, 1), goes(full, 0, 0, 1, -2)), false},
		// No path.
		{"A1", pathOf(goes(1, 1)), false},
		{"A1", pathOf(goes(full, 1), goes(full, 1)), false},
		{"A2", pathOf(goes(full, 1)), false},
	} {
		if got := impl.IsDominantPath(cartanNamed(t, e.name), e.p); got != e.want {
			t.Error(e, got)
		}
	}
}
