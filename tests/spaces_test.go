package tests

import (
	"math"
	"math/rand/v2"
	"slices"
	"testing"

	"loop.example/g03109/impl"
)

// eachPair calls f for spaces so small that their elements can be listed.
func eachPair(seed uint64, f func(a impl.Matrix, b impl.Matrix)) {
	r := newRandom(seed)
	for _, p := range []int{2, 3, 5} {
		for cols := range 5 {
			for range 60 {
				rows := 4
				if p == 5 {
					rows = 2
				}
				f(impl.SpanOf(randomMatrix(r, p, r.IntN(rows+1), cols)), impl.SpanOf(randomMatrix(r, p, r.IntN(rows+1), cols)))
			}
		}
	}
}

func TestExamplesOfSpaces(t *testing.T) {
	a, b := matrixOf(5, 2, 3, 1, 0, 2, 0, 1, 3), matrixOf(5, 2, 3, 1, 0, 0, 0, 0, 1)
	sum, ok := impl.SumSpaces(a, b)
	mustMatrix(t, "sum", sum, ok, impl.UnitMatrix(5, 3))
	meet, ok := impl.MeetSpaces(a, b)
	mustMatrix(t, "meet", meet, ok, matrixOf(5, 1, 3, 1, 0, 2))
	x, ok := impl.CoordinatesIn(a, []int{3, 4, 3})
	if !ok || !slices.Equal(x, []int{3, 4}) {
		t.Error(x, ok)
	}
	if impl.IsSubspace(a, b) || !impl.IsSubspace(meet, a) || !impl.IsSubspace(meet, b) || impl.IsSubspace(a, meet) {
		t.Error("subspaces")
	}
	mustMatrix(t, "span", impl.SpanOf(matrixOf(5, 3, 2, 0, 2, 0, 1, 0, 0)), true, matrixOf(5, 1, 2, 0, 1))
	mustMatrix(t, "span", impl.SpanOf(matrixOf(5, 2, 2, 0, 0, 0, 0)), true, matrixOf(5, 0, 2))
	mustMatrix(t, "span", impl.SpanOf(matrixOf(5, 40, 0)), true, matrixOf(5, 0, 0))
	mustMatrix(t, "span", impl.SpanOf(matrixOf(5, 0, 40)), true, matrixOf(5, 0, 40))
	mustMatrix(t, "span", impl.SpanOf(matrixOf(7, 2, 3, 2, 4, 1, 0, 0, 3)), true, matrixOf(7, 2, 3, 1, 2, 0, 0, 0, 1))
}

func TestSpaceOk(t *testing.T) {
	for _, s := range []impl.Matrix{
		matrixOf(5, 0, 0), matrixOf(5, 0, 40), matrixOf(5, 1, 1, 1), matrixOf(5, 1, 3, 0, 1, 4), matrixOf(5, 2, 3, 1, 4, 0, 0, 0, 1),
		impl.UnitMatrix(10007, 40), matrixOf(2, 1, 2, 1, 1), matrixOf(10007, 1, 2, 1, 10006),
	} {
		if !impl.SpaceOk(s) {
			t.Error(s)
		}
	}
	for _, s := range append(invalidMatrices(),
		matrixOf(5, 1, 0), matrixOf(5, 40, 0), matrixOf(5, 1, 1, 0), matrixOf(5, 1, 1, 2), matrixOf(5, 1, 3, 0, 2, 1),
		matrixOf(5, 2, 2, 0, 1, 1, 0), matrixOf(5, 2, 2, 1, 1, 0, 1), matrixOf(5, 2, 2, 1, 0, 1, 1), matrixOf(5, 2, 2, 1, 0, 0, 0),
		matrixOf(5, 2, 2, 0, 0, 0, 1), matrixOf(5, 2, 2, 1, 0, 1, 0), matrixOf(5, 2, 1, 1, 0), matrixOf(5, 2, 1, 1, 1),
		matrixOf(5, 2, 2, 1, 0, 0, 4), matrixOf(5, 3, 3, 1, 0, 0, 0, 1, 2, 0, 0, 1), matrixOf(5, 3, 3, 1, 0, 0, 0, 0, 1, 0, 1, 0),
	) {
		if impl.SpaceOk(s) {
			t.Error(s)
		}
	}
}

// TestSpaceOkOfAll asks for all small matrices whether they are reduced.
func TestSpaceOkOfAll(t *testing.T) {
	for rows := range 4 {
		for cols := range 4 {
			for _, data := range allVectors(2, rows*cols) {
				checkSpaceOk(t, matrixOf(2, rows, cols, data...))
			}
			if rows*cols <= 6 {
				for _, data := range allVectors(3, rows*cols) {
					checkSpaceOk(t, matrixOf(3, rows, cols, data...))
				}
			}
		}
	}
}

func checkSpaceOk(t *testing.T, s impl.Matrix) {
	t.Helper()
	if got := impl.SpaceOk(s); got != spaceByDefinition(s) || got != sameMatrix(impl.SpanOf(s), s) {
		t.Error(s, got)
	}
}

func spaceByDefinition(s impl.Matrix) bool {
	for i := range s.Rows {
		if zeroVector(row(s, i)) {
			return false
		}
	}
	return reducedSpace(s)
}

func TestSpansOfSmall(t *testing.T) {
	eachSmall(14, func(a impl.Matrix) {
		s := impl.SpanOf(a)
		if !impl.SpaceOk(s) || !spaceByDefinition(s) || s.P != a.P || s.Cols != a.Cols || s.Rows != impl.RankOf(a) {
			t.Fatal(a, s)
		}
		before, after := sumsOfRows(a), sumsOfRows(s)
		if len(before) != len(after) {
			t.Error(a, s)
		}
		for v := range before {
			if !after[v] {
				t.Error(a, s)
			}
		}
	})
}

func TestSumsAndMeetsOfSmall(t *testing.T) {
	eachPair(15, func(a impl.Matrix, b impl.Matrix) {
		sum, fine := impl.SumSpaces(a, b)
		meet, ok := impl.MeetSpaces(a, b)
		if !fine || !ok || !impl.SpaceOk(sum) || !impl.SpaceOk(meet) || sum.Rows+meet.Rows != a.Rows+b.Rows {
			t.Fatal(a, b, sum, meet)
		}
		left, right, inSum, inMeet := sumsOfRows(a), sumsOfRows(b), sumsOfRows(sum), sumsOfRows(meet)
		inside := true
		for _, v := range allVectors(a.P, a.Cols) {
			s := text(v)
			if inMeet[s] != (left[s] && right[s]) || (left[s] || right[s]) && !inSum[s] {
				t.Error(a, b, sum, meet, v)
			}
			inside = inside && (!left[s] || right[s])
		}
		if impl.IsSubspace(a, b) != inside || !impl.IsSubspace(meet, a) || !impl.IsSubspace(b, sum) {
			t.Error(a, b, inside)
		}
	})
}

func TestCoordinatesInSmall(t *testing.T) {
	eachPair(16, func(s impl.Matrix, _ impl.Matrix) {
		found := map[string][]int{}
		for _, x := range allVectors(s.P, s.Rows) {
			found[text(combine(s, x))] = x
		}
		for _, v := range allVectors(s.P, s.Cols) {
			x, ok := impl.CoordinatesIn(s, v)
			want, there := found[text(v)]
			if ok != there || !slices.Equal(x, want) || !ok && x != nil {
				t.Error(s, v, x, ok)
			}
		}
	})
}

func TestCoordinatesOfWrongVectors(t *testing.T) {
	s := matrixOf(5, 1, 2, 1, 0)
	for _, v := range [][]int{nil, {0}, {1}, {1, 0, 0}, {5, 0}, {6, 0}, {-4, 0}, {0, 5}, {1, -5}, {math.MinInt, 0}, {math.MaxInt, 0}, {1, 1}} {
		if x, ok := impl.CoordinatesIn(s, v); ok || x != nil {
			t.Error(v, x, ok)
		}
	}
	if x, ok := impl.CoordinatesIn(matrixOf(5, 0, 0), nil); !ok || len(x) != 0 {
		t.Error(x, ok)
	}
	if x, ok := impl.CoordinatesIn(matrixOf(5, 0, 2), []int{0, 0}); !ok || len(x) != 0 {
		t.Error(x, ok)
	}
	for _, bad := range []impl.Matrix{matrixOf(5, 1, 2, 2, 0), matrixOf(5, 2, 2, 1, 0, 0, 0), matrixOf(5, 2, 2, 0, 1, 1, 0)} {
		if x, ok := impl.CoordinatesIn(bad, []int{0, 0}); ok || x != nil {
			t.Error(bad, x, ok)
		}
	}
}

func TestSpacesThatDoNotFit(t *testing.T) {
	a := matrixOf(5, 1, 2, 1, 3)
	for _, b := range []impl.Matrix{
		matrixOf(7, 1, 2, 1, 3), matrixOf(5, 1, 3, 1, 3, 0), matrixOf(5, 1, 1, 1), matrixOf(5, 0, 0), matrixOf(3, 0, 2),
		matrixOf(5, 1, 2, 2, 1), matrixOf(5, 2, 2, 1, 3, 0, 0), matrixOf(5, 2, 2, 0, 1, 1, 0),
	} {
		for _, m := range [][2]impl.Matrix{{a, b}, {b, a}} {
			if s, ok := impl.SumSpaces(m[0], m[1]); ok || s.Data != nil || !sameMatrix(s, impl.Matrix{}) {
				t.Error(m, s, ok)
			}
			if s, ok := impl.MeetSpaces(m[0], m[1]); ok || s.Data != nil || !sameMatrix(s, impl.Matrix{}) {
				t.Error(m, s, ok)
			}
			if impl.IsSubspace(m[0], m[1]) {
				t.Error(m)
			}
		}
	}
	for _, empty := range []impl.Matrix{matrixOf(5, 0, 2), matrixOf(5, 0, 40), matrixOf(5, 0, 0)} {
		if !impl.IsSubspace(empty, empty) || !impl.IsSubspace(empty, impl.UnitMatrix(5, empty.Cols)) {
			t.Error(empty)
		}
	}
	unreduced := matrixOf(5, 1, 2, 2, 1)
	if impl.IsSubspace(unreduced, unreduced) || !impl.IsSubspace(a, a) {
		t.Error("only spaces have subspaces")
	}
}

// TestSpacesOfLarge has two spaces with up to 80 rows together.
func TestSpacesOfLarge(t *testing.T) {
	eachLarge(17, func(r *rand.Rand, m impl.Matrix, rank int) {
		a := impl.SpanOf(m)
		b := impl.SpanOf(ofRank(r, m.P, m.Cols, m.Cols, r.IntN(m.Cols+1)))
		sum, fine := impl.SumSpaces(a, b)
		meet, ok := impl.MeetSpaces(a, b)
		if !fine || !ok || a.Rows != rank || sum.Rows+meet.Rows != a.Rows+b.Rows || !impl.SpaceOk(sum) || !impl.SpaceOk(meet) {
			t.Fatal(a, b, sum, meet)
		}
		for _, pair := range [][2]impl.Matrix{{meet, a}, {meet, b}, {a, sum}, {b, sum}} {
			if !impl.IsSubspace(pair[0], pair[1]) || pair[0].Rows < pair[1].Rows && impl.IsSubspace(pair[1], pair[0]) {
				t.Error(pair)
			}
		}
		x := randomVector(r, m.P, a.Rows)
		got, ok := impl.CoordinatesIn(a, combine(a, x))
		if !ok || !slices.Equal(got, x) {
			t.Error(a, x, got, ok)
		}
		v := randomVector(r, m.P, m.Cols)
		line := impl.SpanOf(matrixOf(m.P, 1, m.Cols, v...))
		if _, ok := impl.CoordinatesIn(a, v); ok != impl.IsSubspace(line, a) {
			t.Error(a, v, ok)
		}
	})
	all := impl.UnitMatrix(10007, 40)
	sum, ok := impl.SumSpaces(all, all)
	mustMatrix(t, "sum of all", sum, ok, all)
	meet, ok := impl.MeetSpaces(all, all)
	mustMatrix(t, "meet of all", meet, ok, all)
}
