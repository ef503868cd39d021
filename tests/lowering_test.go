package tests

import (
	"math"
	"math/rand/v2"
	"slices"
	"testing"

	"loop.example/g03109/impl"
)

// half and third are parts of PathLength.
const (
	half  = full / 2
	third = full / 3
)

// movedPath is a path with what LowerPath and RaisePath make of it for the row i; nil where they fail.
type movedPath struct {
	name             string
	i                int
	p, lower, raised []impl.Step
}

func checkMoves(t *testing.T, e movedPath) {
	t.Helper()
	c := cartanNamed(t, e.name)
	lower, ok := impl.LowerPath(c, e.i, e.p)
	mustPathIf(t, e, lower, ok, e.lower, e.lower != nil)
	raised, ok := impl.RaisePath(c, e.i, e.p)
	mustPathIf(t, e, raised, ok, e.raised, e.raised != nil)
}

func TestExamplesOfMoves(t *testing.T) {
	for _, e := range []movedPath{
		{"A1", 0, nil, nil, nil},
		{"A1", 0, pathOf(goes(full, 0)), nil, nil},
		{"A1", 0, pathOf(goes(3*full, 0)), nil, nil},
		{"A1", 0, pathOf(goes(full, 1)), pathOf(goes(full, -1)), nil},
		{"A1", 0, pathOf(goes(full, -1)), nil, pathOf(goes(full, 1))},
		{"A1", 0, pathOf(goes(full, 2)), pathOf(goes(half, -2), goes(half, 2)), nil},
		{"A1", 0, pathOf(goes(full, -2)), nil, pathOf(goes(half, -2), goes(half, 2))},
		{"A1", 0, pathOf(goes(half, -2), goes(half, 2)), pathOf(goes(full, -2)), pathOf(goes(full, 2))},
		{"A1", 0, pathOf(goes(full, 3)), pathOf(goes(third, -3), goes(2*third, 3)), nil},
		{"A1", 0, pathOf(goes(third, -3), goes(2*third, 3)), pathOf(goes(2*third, -3), goes(third, 3)), pathOf(goes(full, 3))},
		{"A1", 0, pathOf(goes(3*full, 1)), pathOf(goes(full, -1), goes(2*full, 1)), nil},
		{"A1", 0, pathOf(goes(3*full, -1)), nil, pathOf(goes(2*full, -1), goes(full, 1))},
		// The height in the end is not great enough, although it was on the way.
		{"A1", 0, pathOf(goes(full, 1), goes(full, -1)), nil, nil},
		{"A1", 0, pathOf(goes(half, -1), goes(full, 1), goes(half, -1)), nil, nil},
		{"A1", 0, pathOf(goes(full, 1), goes(1, -1), goes(full-1, 0)), nil, nil},
		{"A1", 0, pathOf(goes(full-1, 0), goes(1, 1), goes(full, -1)), nil, nil},
		{"A1", 0, pathOf(goes(full-1, -1), goes(2*full+1, 0)), nil, nil},
		{"A1", 0, pathOf(goes(full-1, 1), goes(2*full+1, 0)), nil, nil},
		{"A1", 0, pathOf(goes(2*full, 1), goes(full, -1)), pathOf(goes(full, -1), goes(full, 1), goes(full, -1)), nil},
		// Neighbours become one at the first time, or at the second one.
		{"A1", 0, pathOf(goes(full, -1), goes(full, 1)), pathOf(goes(2*full, -1)), pathOf(goes(2*full, 1))},
		{"A1", 0, pathOf(goes(full, 1), goes(full, -1), goes(full, 1)), pathOf(goes(full, 1), goes(2*full, -1)), nil},
		{"A1", 0, pathOf(goes(full, -1), goes(full, 1), goes(full, -1)), nil, pathOf(goes(2*full, 1), goes(full, -1))},
		{"A1", 0, pathOf(goes(full, 1), goes(half, -1), goes(half, 1)), pathOf(goes(3*half, -1), goes(half, 1)), nil},
		// The second time is at the border of two steps.
		{"A1", 0, pathOf(goes(full, 1), goes(full, 2)), pathOf(goes(full, -1), goes(full, 2)), nil},
		{"A1", 0, pathOf(goes(full, -1), goes(full, -2)), nil, pathOf(goes(full, -1), goes(half, -2), goes(half, 2))},
		{"A1", 0, pathOf(goes(full, -2), goes(full, -1)), nil, pathOf(goes(full, -2), goes(full, 1))},
		{"A1", 0, pathOf(goes(full, -1), goes(full, 2)), pathOf(goes(full, -1), goes(half, -2), goes(half, 2)), pathOf(goes(full, 1), goes(full, 2))},
		{"A1", 0, pathOf(goes(half, 1), goes(half, 0), goes(half, 1), goes(half, 3)), pathOf(goes(half, -1), goes(half, 0), goes(half, -1), goes(half, 3)), nil},
		// The least height along a whole step, and the height that is greater by PathLength.
		{"A1", 0, pathOf(goes(full, 0), goes(full, 1)), pathOf(goes(full, 0), goes(full, -1)), nil},
		{"A1", 0, pathOf(goes(full, -1), goes(full, 0)), nil, pathOf(goes(full, 1), goes(full, 0))},
		{"A1", 0, pathOf(goes(full, 1), goes(full, 0)), pathOf(goes(full, -1), goes(full, 0)), nil},
		{"A1", 0, pathOf(goes(full, 0), goes(full, -1)), nil, pathOf(goes(full, 0), goes(full, 1))},
		{"A1", 0, pathOf(goes(full, -1), goes(full, 0), goes(full, 1)), pathOf(goes(full, -1), goes(full, 0), goes(full, -1)), pathOf(goes(full, 1), goes(full, 0), goes(full, 1))},
		// The least height several times.
		{"A1", 0, pathOf(goes(half, -1), goes(half, 1), goes(half, -1), goes(3*half, 1)), pathOf(goes(half, -1), goes(half, 1), goes(3*half, -1), goes(half, 1)), nil},
		{"A1", 0, pathOf(goes(full, -1), goes(half, 1), goes(half, -1)), nil, pathOf(goes(3*half, 1), goes(half, -1))},
		{"A1", 0, pathOf(goes(third, 1), goes(third, -1), goes(third, 3)), pathOf(goes(third, 1), goes(third, -1), goes(third, -3)), nil},
		{"A1", 0, pathOf(goes(third, -3), goes(third, 1), goes(third, -1)), nil, pathOf(goes(third, 3), goes(third, 1), goes(third, -1))},
		// The height that is greater by PathLength several times.
		{"A1", 0, pathOf(goes(full, 1), goes(third, -1), goes(2*third, 2)), pathOf(goes(4*third, -1), goes(2*third, 2)), nil},
		{"A1", 0, pathOf(goes(third, 3), goes(third, -1), goes(third, 1)), pathOf(goes(third, -3), goes(third, -1), goes(third, 1)), nil},
		{"A1", 0, pathOf(goes(third, -1), goes(third, 1), goes(third, -3)), nil, pathOf(goes(third, -1), goes(third, 1), goes(third, 3))},
		// What the height is before the first time and behind the second one.
		{"A1", 0, pathOf(goes(full, 2), goes(full, -2), goes(full, 1)), pathOf(goes(full, 2), goes(full, -2), goes(full, -1)), nil},
		{"A1", 0, pathOf(goes(full, -1), goes(full, 2), goes(full, -2)), nil, pathOf(goes(full, 1), goes(full, 2), goes(full, -2))},
		// The least height is no multiple of PathLength.
		{"A1", 0, pathOf(goes(5, -1), goes(full-5, 2)), pathOf(goes(5, -1), goes(half, -2), goes(half-5, 2)), nil},
		{"A1", 0, pathOf(goes(full-5, -2), goes(5, 1)), nil, pathOf(goes(half-5, -2), goes(half, 2), goes(5, 1))},
		{"A1", 0, pathOf(goes(full+2, -1), goes(2*full-2, 1)), pathOf(goes(2*full+2, -1), goes(full-2, 1)), pathOf(goes(2, -1), goes(3*full-2, 1))},
		// What is lowered is raised to another path.
		{"A1", 0, pathOf(goes(full, 1), goes(half, -1), goes(3*half, 1)), pathOf(goes(3*half, -1), goes(3*half, 1)), nil},
		{"A1", 0, pathOf(goes(3*half, -1), goes(3*half, 1)), pathOf(goes(5*half, -1), goes(half, 1)), pathOf(goes(half, -1), goes(5*half, 1))},
	} {
		checkMoves(t, e)
	}
}

func TestTimesOfMoves(t *testing.T) {
	for _, e := range []movedPath{
		// Times inside of a step that are no integers, and some that are.
		{"A1", 0, pathOf(goes(full, 12)), pathOf(goes(2310, -12), goes(full-2310, 12)), nil},
		{"A1", 0, pathOf(goes(full, 13)), nil, nil},
		{"A1", 0, pathOf(goes(full, 14)), pathOf(goes(1980, -14), goes(full-1980, 14)), nil},
		{"A1", 0, pathOf(goes(full, -12)), nil, pathOf(goes(full-2310, -12), goes(2310, 12))},
		{"A1", 0, pathOf(goes(full, -13)), nil, nil},
		{"A1", 0, pathOf(goes(full, 16)), nil, nil},
		{"A1", 0, pathOf(goes(full, 990)), pathOf(goes(28, -990), goes(full-28, 990)), nil},
		{"A1", 0, pathOf(goes(full, -990)), nil, pathOf(goes(full-28, -990), goes(28, 990))},
		{"A1", 0, pathOf(goes(full, 1000)), nil, nil},
		{"A1", 0, pathOf(goes(full, -1000)), nil, nil},
		{"A1", 0, pathOf(goes(1, 1), goes(full-1, 2)), nil, nil},
		{"A1", 0, pathOf(goes(2, 1), goes(full-2, 2)), pathOf(goes(2, -1), goes(half-1, -2), goes(half-1, 2)), nil},
		{"A1", 0, pathOf(goes(full-1, -2), goes(1, -1)), nil, nil},
		{"A1", 0, pathOf(goes(full-2, -2), goes(2, -1)), nil, pathOf(goes(half-1, -2), goes(half-1, 2), goes(2, 1))},
		// There is a time that is an integer, but it is not the first one, or not the last one.
		{"A1", 0, pathOf(goes(1, 1), goes(full-1, 2), goes(full-2, -2), goes(full+2, 1)), nil, nil},
		{"A1", 0, pathOf(goes(full+2, -1), goes(full-2, 2), goes(full-1, -2), goes(1, -1)), nil, nil},
		// The second time is the end of a step, of which the height is no multiple of the number.
		{"A1", 0, pathOf(goes(full-7, 1), goes(1, 7), goes(6, 0)), pathOf(goes(full-7, -1), goes(1, -7), goes(6, 0)), nil},
		{"A1", 0, pathOf(goes(full-7, 1), goes(7, 1000)), nil, nil},
		{"A1", 0, pathOf(goes(full-8, 1), goes(8, 4)), pathOf(goes(full-8, -1), goes(2, -4), goes(6, 4)), nil},
		{"A1", 0, pathOf(goes(full-9, 1), goes(9, 4)), nil, nil},
	} {
		checkMoves(t, e)
	}
}

func TestMovesOfSeveralRows(t *testing.T) {
	for _, e := range []movedPath{
		{"A2", 0, pathOf(goes(full, 1, 1)), pathOf(goes(full, -1, 2)), nil},
		{"A2", 1, pathOf(goes(full, 1, 1)), pathOf(goes(full, 2, -1)), nil},
		{"A2", 1, pathOf(goes(full, -1, 2)), pathOf(goes(half, 1, -2), goes(half, -1, 2)), nil},
		{"A2", 0, pathOf(goes(full, -1, 2)), nil, pathOf(goes(full, 1, 1))},
		{"A2", 0, pathOf(goes(half, 1, -2), goes(half, -1, 2)), nil, nil},
		{"B2", 0, pathOf(goes(full, 1, 0)), pathOf(goes(full, -1, 2)), nil},
		{"B2", 1, pathOf(goes(full, 0, 1)), pathOf(goes(full, 1, -1)), nil},
		{"B2", 1, pathOf(goes(full, -1, 2)), pathOf(goes(half, 1, -2), goes(half, -1, 2)), nil},
		{"G2", 0, pathOf(goes(full, 1, 0)), pathOf(goes(full, -1, 1)), nil},
		{"G2", 1, pathOf(goes(full, 0, 1)), pathOf(goes(full, 3, -1)), nil},
		{"G2", 0, pathOf(goes(full, 3, -1)), pathOf(goes(third, -3, 2), goes(2*third, 3, -1)), nil},
		{"G2", 1, pathOf(goes(full, 3, -1)), nil, pathOf(goes(full, 0, 1))},
		{"D4", 1, pathOf(goes(full, 0, 1, 0, 0)), pathOf(goes(full, 1, -1, 1, 1)), nil},
		// Neighbours become one only if their Ways are the same in all rows.
		{"A2", 0, pathOf(goes(full, -1, 0), goes(full, 1, -1), goes(full, 1, 0)), pathOf(goes(2*full, -1, 0), goes(full, 1, 0)), pathOf(goes(2*full, 1, -1), goes(full, 1, 0))},
		{"A1+A1", 0, pathOf(goes(full, 1, 5), goes(full, 1, 6)), pathOf(goes(full, -1, 5), goes(full, 1, 6)), nil},
		// There is no such row.
		{"A1", 1, pathOf(goes(full, 1)), nil, nil},
		{"A1", -1, pathOf(goes(full, -1)), nil, nil},
		{"A2", 2, pathOf(goes(full, 1, 1)), nil, nil},
		{"A2", math.MinInt, pathOf(goes(full, 1, -1)), nil, nil},
		{"A2", math.MaxInt, pathOf(goes(full, 1, -1)), nil, nil},
		// The result has a Way that is no weight.
		{"A2", 0, pathOf(goes(full, 990, 10)), pathOf(goes(28, -990, 1000), goes(full-28, 990, 10)), nil},
		{"A2", 0, pathOf(goes(full, 990, 11)), nil, nil},
		{"A2", 0, pathOf(goes(full, -990, -10)), nil, pathOf(goes(full-28, -990, -10), goes(28, 990, -1000))},
		{"A2", 0, pathOf(goes(full, -990, -11)), nil, nil},
		{"G2", 1, pathOf(goes(full, 10, 330)), pathOf(goes(84, 1000, -330), goes(full-84, 10, 330)), nil},
		{"G2", 1, pathOf(goes(full, 11, 330)), nil, nil},
		// The arguments are no paths.
		{"A1", 0, pathOf(goes(full/2, 2)), nil, nil},
		{"A1", 0, pathOf(goes(full, 1), goes(full, 1)), nil, nil},
		{"A2", 0, pathOf(goes(full, 1)), nil, nil},
		{"A1", 0, pathOf(goes(4*full, 1)), nil, nil},
	} {
		checkMoves(t, e)
	}
}

// TestMovesOfLongestPaths cuts a step of the longest path, which makes one more, unless two others become one.
func TestMovesOfLongestPaths(t *testing.T) {
	for _, k := range pathTypes() {
		if k.c.Rank == 1 {
			continue
		}
		n := k.c.Rank
		up, down := unitVector(n, 0), turnedBy(k.c, 0, unitVector(n, 0))
		for _, before := range []int{1, 2, 57, 58, 59} {
			var p []impl.Step
			for j := range before {
				p = append(p, goes(1, stepped(make([]int, n), (before-j)%2, unitVector(n, n-1))...))
			}
			checkLongest(t, k.c, append(copyPath(p), goes(2*full-before, up...)), before < 59)
			if before == 59 {
				continue
			}
			// The reflected part becomes one with the step before it.
			checkLongest(t, k.c, append(copyPath(p), goes(half, down...), goes(2*full-half-before, up...)), true)
		}
	}
}

// checkLongest also moves the dual path.
func checkLongest(t *testing.T, c impl.Cartan, p []impl.Step, can bool) {
	t.Helper()
	want, ok := lowerBy(c, 0, p)
	if ok != can || !impl.PathOk(c, p) {
		t.Error(c, len(p), ok, can)
	}
	got, done := impl.LowerPath(c, 0, p)
	mustPathIf(t, len(p), got, done, want, can)
	got, done = impl.RaisePath(c, 0, impl.DualPath(c, p))
	mustPathIf(t, len(p), got, done, impl.DualPath(c, want), can)
}

// TestMoves takes random paths with times that are integers and with others.
func TestMoves(t *testing.T) {
	lowered, raised, failed := 0, 0, 0
	eachSomePath(910, func(_ *rand.Rand, k knownType, p []impl.Step) {
		for i := range k.c.Rank {
			want, can := lowerBy(k.c, i, p)
			got, ok := impl.LowerPath(k.c, i, p)
			mustPathIf(t, p, got, ok, want, can)
			other, may := raiseBy(k.c, i, p)
			got, ok = impl.RaisePath(k.c, i, p)
			mustPathIf(t, p, got, ok, other, may)
			switch {
			case can:
				lowered++
			case may:
				raised++
			default:
				failed++
			}
		}
		for _, i := range []int{-1, k.c.Rank, math.MinInt, math.MaxInt} {
			got, ok := impl.LowerPath(k.c, i, p)
			mustNoPath(t, p, got, ok)
			got, ok = impl.RaisePath(k.c, i, p)
			mustNoPath(t, p, got, ok)
			got, ok = impl.ReflectPath(k.c, i, p)
			mustNoPath(t, p, got, ok)
		}
	})
	if lowered < 700 || raised < 300 || failed < 700 {
		t.Error(lowered, raised, failed)
	}
}

// joinedOf has paths of several highest weights one after the other.
func joinedOf(r *rand.Rand, seed []knownPaths) [][]impl.Step {
	var list [][]impl.Step
	for range 3 {
		var p []impl.Step
		for range 2 + r.IntN(2) {
			paths := seed[r.IntN(len(seed))].paths
			p = append(p, paths[r.IntN(len(paths))]...)
		}
		list = append(list, mergedBy(p))
	}
	return list
}

// eachHighestPath also has paths that are joined of several ones.
func eachHighestPath(seed uint64, f func(r *rand.Rand, c impl.Cartan, p []impl.Step)) {
	r := newRandom(seed)
	all := highestPaths()
	for first := 0; first < len(all); {
		c := all[first].c
		last := first
		for last < len(all) && slices.Equal(all[last].c.Data, c.Data) {
			last++
		}
		for _, k := range all[first:last] {
			for _, p := range slices.Concat(k.paths, joinedOf(r, all[first:last])) {
				f(r, c, p)
			}
		}
		first = last
	}
}

// TestNumbersOfMoves says how often a path of a highest weight can be lowered and raised, and that one takes back the other.
func TestNumbersOfMoves(t *testing.T) {
	lowered := 0
	eachHighestPath(911, func(_ *rand.Rand, c impl.Cartan, p []impl.Step) {
		end, ok := impl.EndOf(c, p)
		if !ok {
			t.Error(c, p)
			return
		}
		for i := range c.Rank {
			lowest := impl.LowestOf(c, i, p) / full
			low, can := impl.LowerPath(c, i, p)
			if can != (end[i]-lowest > 0) {
				t.Error(c, i, p, low)
			}
			if can {
				lowered++
				checkNeighbours(t, c, i, p, low)
			}
			if high, can := impl.RaisePath(c, i, p); can != (lowest < 0) {
				t.Error(c, i, p, high)
			} else if can {
				checkNeighbours(t, c, i, high, p)
			}
		}
	})
	if lowered < 20000 {
		t.Error(lowered)
	}
}

// checkNeighbours says that low is high after one step for the row i, and high is low after one back.
func checkNeighbours(t *testing.T, c impl.Cartan, i int, high []impl.Step, low []impl.Step) {
	t.Helper()
	back, ok := impl.RaisePath(c, i, low)
	mustPath(t, low, back, ok, high)
	forth, ok := impl.LowerPath(c, i, high)
	mustPath(t, high, forth, ok, low)
	end, _ := impl.EndOf(c, high)
	got, ok := impl.EndOf(c, low)
	mustEnd(t, low, got, ok, stepped(end, -1, weightBy(c, unitVector(c.Rank, i))), true)
	if impl.LowestOf(c, i, low) != impl.LowestOf(c, i, high)-full {
		t.Error(c, i, high, low)
	}
}

func TestExamplesOfReflectedPaths(t *testing.T) {
	for _, e := range []struct {
		name    string
		i       int
		p, want []impl.Step
	}{
		{"A1", 0, pathOf(goes(full, 1)), pathOf(goes(full, -1))},
		{"A1", 0, pathOf(goes(full, -1)), pathOf(goes(full, 1))},
		{"A1", 0, pathOf(goes(full, 12)), pathOf(goes(full, -12))},
		{"A1", 0, pathOf(goes(full, -12)), pathOf(goes(full, 12))},
		{"A1", 0, pathOf(goes(3*full, 990)), pathOf(goes(3*full, -990))},
		{"A1", 0, pathOf(goes(3*full, -990)), pathOf(goes(3*full, 990))},
		{"A1", 0, pathOf(goes(third, -3), goes(2*third, 3)), pathOf(goes(2*third, -3), goes(third, 3))},
		// An end of 0.
		{"A1", 0, pathOf(goes(full, 0)), pathOf(goes(full, 0))},
		{"A1", 0, pathOf(goes(full, 1), goes(full, -1)), pathOf(goes(full, 1), goes(full, -1))},
		{"A1", 0, pathOf(goes(half, -13), goes(half, 13)), pathOf(goes(half, -13), goes(half, 13))},
		{"A2", 1, pathOf(goes(full, 13, 0)), pathOf(goes(full, 13, 0))},
		// The end is no integer in one of the rows.
		{"A1", 0, pathOf(goes(half, 1), goes(half, 0)), nil},
		{"A2", 0, pathOf(goes(half, 1, 1), goes(half, 1, 0)), nil},
		{"A2", 1, pathOf(goes(half, 1, 1), goes(half, 0, 1)), nil},
		{"A1+A1", 0, pathOf(goes(half, 0, 1), goes(half, 0, 0)), nil},
		// The first step or a later one fails.
		{"A1", 0, pathOf(goes(full, 13)), nil},
		{"A1", 0, pathOf(goes(full, -13)), nil},
		{"A1", 0, pathOf(goes(full, 1), goes(full, 13)), nil},
		{"A1", 0, pathOf(goes(full, -13), goes(full, -1)), nil},
		{"A2", 0, pathOf(goes(full, 990, 11)), nil},
		{"A2", 0, pathOf(goes(full, 990, 10)), pathOf(goes(full, -990, 1000))},
		{"A2", 0, pathOf(goes(full, 1, 1)), pathOf(goes(full, -1, 2))},
		{"A2", 1, pathOf(goes(full, -1, 2)), pathOf(goes(full, 1, -2))},
		{"G2", 1, pathOf(goes(full, 0, 1)), pathOf(goes(full, 3, -1))},
		// There is no such row, or no path.
		{"A1", 1, pathOf(goes(full, 1)), nil},
		{"A1", 1, pathOf(goes(full, 0)), nil},
		{"A1", -1, pathOf(goes(full, 0)), nil},
		{"A1", 0, pathOf(goes(5, 1)), nil},
	} {
		got, ok := impl.ReflectPath(cartanNamed(t, e.name), e.i, e.p)
		mustPathIf(t, e, got, ok, e.want, e.want != nil)
	}
	got, ok := impl.ReflectPath(cartanNamed(t, "A1"), 0, nil)
	mustPath(t, "empty", got, ok, nil)
}

func TestReflectedPaths(t *testing.T) {
	counts := map[bool]int{}
	eachSomePath(912, func(r *rand.Rand, k knownType, p []impl.Step) {
		if len(p) > 9 {
			return
		}
		i := r.IntN(k.c.Rank)
		want, can := reflectBy(k.c, i, p)
		got, ok := impl.ReflectPath(k.c, i, p)
		mustPathIf(t, p, got, ok, want, can)
		counts[can]++
	})
	if counts[true] < 200 || counts[false] < 200 {
		t.Error(counts)
	}
}

// TestReflectionsOfPaths says that they reflect ends, and have the orders that reflections of weights have.
func TestReflectionsOfPaths(t *testing.T) {
	eachHighestPath(913, func(r *rand.Rand, c impl.Cartan, p []impl.Step) {
		i, j := r.IntN(c.Rank), r.IntN(c.Rank)
		turned, ok := impl.ReflectPath(c, i, p)
		if !ok || !validPath(c.Rank, turned) {
			t.Error(c, i, p, turned)
		}
		end, _ := impl.EndOf(c, p)
		got, fine := impl.EndOf(c, turned)
		mustEnd(t, p, got, fine, turnedBy(c, i, end), true)
		twice, ok := impl.ReflectPath(c, i, turned)
		mustPath(t, p, twice, ok, p)
		if i == j {
			return
		}
		one, other := p, p
		for range []int{2, 3, 4, 6}[entry(c, i, j)*entry(c, j, i)] {
			one, _ = impl.ReflectPath(c, i, one)
			other, _ = impl.ReflectPath(c, j, other)
			i, j = j, i
		}
		mustPath(t, p, one, true, other)
	})
}
