package tests

import (
	"math/rand/v2"
	"slices"
	"testing"

	"loop.example/g03109/impl"
)

func TestExamplesOfHighestPaths(t *testing.T) {
	for _, e := range []struct {
		name    string
		p, want []impl.Step
	}{
		{"A1", nil, nil},
		{"A1", pathOf(goes(full, 0)), pathOf(goes(full, 0))},
		{"A1", pathOf(goes(full, 3)), pathOf(goes(full, 3))},
		{"A1", pathOf(goes(full, -3)), pathOf(goes(full, 3))},
		{"A1", pathOf(goes(2*third, -3), goes(third, 3)), pathOf(goes(full, 3))},
		{"A1", pathOf(goes(full, 1), goes(full, -1)), pathOf(goes(full, 1), goes(full, -1))},
		{"A1", pathOf(goes(full, -1), goes(full, 1)), pathOf(goes(2*full, 1))},
		{"A2", pathOf(goes(full, 0, -1)), pathOf(goes(full, 1, 0))},
		{"A2", pathOf(goes(full, -1, 0)), pathOf(goes(full, 0, 1))},
		{"A2", pathOf(goes(full, -1, -1)), pathOf(goes(full, 1, 1))},
		{"A2", pathOf(goes(full, 0, 1), goes(full, 0, -1)), pathOf(goes(full, 0, 1), goes(full, 0, -1))},
		{"A2", pathOf(goes(full, 1, 0), goes(full, 0, -1)), pathOf(goes(full, 1, 0), goes(full, -1, 1))},
		{"A2", pathOf(goes(full, 0, -1), goes(full, 0, -1), goes(full, 1, 0)), nil},
		// It ends where no row can be raised, although the path is not dominant.
		{"A1", pathOf(goes(full, -13)), pathOf(goes(full, -13))},
		{"A1", pathOf(goes(1, -1), goes(full-1, 1)), pathOf(goes(1, -1), goes(full-1, 1))},
		{"A1+A1", pathOf(goes(full, -13, -1)), pathOf(goes(full, -13, 1))},
		{"A1+A1", pathOf(goes(full, -1, -13)), pathOf(goes(full, 1, -13))},
		{"A2", pathOf(goes(full, -13, -1)), pathOf(goes(full, 14, -13))},
		{"A2", pathOf(goes(full, -990, -11)), pathOf(goes(full, -990, -11))},
		{"A2", pathOf(goes(full, -90, -110)), pathOf(goes(full, 90, -200))},
	} {
		got, ok := impl.HighestPath(cartanNamed(t, e.name), e.p)
		mustPathIf(t, e, got, ok, e.want, len(e.p) == 0 || e.want != nil)
	}
}

// TestLimitOfHighestPaths has paths that are raised MaxTerms times, once less or more, or more often.
func TestLimitOfHighestPaths(t *testing.T) {
	for _, e := range []struct {
		name    string
		p, want []impl.Step
	}{
		{"A1", pathOf(goes(full, -396), goes(full, -3)), pathOf(goes(full, 396), goes(full, 3))},
		{"A1", pathOf(goes(full, -396), goes(full, -4)), pathOf(goes(full, 396), goes(full, 4))},
		{"A1", pathOf(goes(full, -396), goes(full, -5)), nil},
		{"A1", pathOf(goes(full, -420)), nil},
		{"A1", pathOf(goes(3*full, -990)), nil},
		{"A1+A1", pathOf(goes(full, -4, -396)), pathOf(goes(full, 4, 396))},
		{"A1+A1", pathOf(goes(full, -396, -4)), pathOf(goes(full, 396, 4))},
		{"A1+A1", pathOf(goes(full, -5, -396)), nil},
		{"A1+A1", pathOf(goes(full, -396, -5)), nil},
		{"A1+A1+A1", pathOf(goes(full, -396, -4, -13)), pathOf(goes(full, 396, 4, -13))},
		{"A1+A1+A1", pathOf(goes(full, -396, -4, -1)), nil},
		{"A2", pathOf(goes(full, -99, -99)), pathOf(goes(full, 99, 99))},
		{"A2", pathOf(goes(full, -99, -99), goes(full, -1, -1)), pathOf(goes(full, 99, 99), goes(full, 1, 1))},
		{"A2", pathOf(goes(full, -99, -99), goes(full, -2, -1)), nil},
		{"A2", pathOf(goes(full, -105, -105)), nil},
	} {
		got, ok := impl.HighestPath(cartanNamed(t, e.name), e.p)
		mustPathIf(t, e, got, ok, e.want, e.want != nil)
	}
}

// TestHighestPaths also says that it counts which row is raised first.
func TestHighestPaths(t *testing.T) {
	changed, otherwise := 0, 0
	eachSomePath(920, func(r *rand.Rand, k knownType, p []impl.Step) {
		if r.IntN(3) > 0 || len(p) > 9 || slices.ContainsFunc(p, func(s impl.Step) bool { return slices.Min(s.Way) < -2 }) {
			return
		}
		want, steps := highestBy(k.c, p)
		got, ok := impl.HighestPath(k.c, p)
		mustPathIf(t, p, got, ok, want, steps <= 400)
		if steps > 0 {
			changed++
		}
		for i := k.c.Rank - 1; i >= 0; i-- {
			if q, ok := impl.RaisePath(k.c, i, p); ok {
				p, i = q, k.c.Rank
			}
		}
		if !samePath(p, got) {
			otherwise++
		}
	})
	if changed < 100 || otherwise < 2 {
		t.Error(changed, otherwise)
	}
}

// TestHighestOfPaths says that paths of a highest weight lead back to the straight one, and joined ones to dominant ones.
func TestHighestOfPaths(t *testing.T) {
	for i, k := range highestPaths() {
		if i%3 > 0 && k.c.Rank > 1 {
			continue
		}
		for _, p := range k.paths {
			got, ok := impl.HighestPath(k.c, p)
			mustPath(t, k.name(), got, ok, impl.StraightPath(k.c, k.w))
			if impl.IsDominantPath(k.c, p) != slices.Equal(p[0].Way, k.w) {
				t.Error(k.name(), k.w, p)
			}
		}
	}
	eachHighestPath(921, func(r *rand.Rand, c impl.Cartan, p []impl.Step) {
		if r.IntN(4) > 0 {
			return
		}
		got, ok := impl.HighestPath(c, p)
		if !ok || !impl.IsDominantPath(c, got) {
			t.Error(c, p, got)
		}
	})
}

func mustPaths(t *testing.T, what any, got [][]impl.Step, want [][]impl.Step) {
	t.Helper()
	if !slices.EqualFunc(got, want, samePath) {
		t.Errorf("%v: %v, not %v", what, got, want)
	}
}

func TestExamplesOfAllPaths(t *testing.T) {
	for _, e := range []struct {
		name string
		w    []int
		want [][]impl.Step
	}{
		{"A1", []int{0}, [][]impl.Step{pathOf(goes(full, 0))}},
		{"F4", []int{0, 0, 0, 0}, [][]impl.Step{pathOf(goes(full, 0, 0, 0, 0))}},
		{"A1", []int{1}, [][]impl.Step{pathOf(goes(full, 1)), pathOf(goes(full, -1))}},
		{"A1", []int{3}, [][]impl.Step{pathOf(goes(full, 3)), pathOf(goes(third, -3), goes(2*third, 3)), pathOf(goes(2*third, -3), goes(third, 3)), pathOf(goes(full, -3))}},
		{"A2", []int{1, 0}, [][]impl.Step{pathOf(goes(full, 1, 0)), pathOf(goes(full, -1, 1)), pathOf(goes(full, 0, -1))}},
		{"A2", []int{1, 1}, [][]impl.Step{
			pathOf(goes(full, 1, 1)), pathOf(goes(full, -1, 2)), pathOf(goes(full, 2, -1)),
			pathOf(goes(half, 1, -2), goes(half, -1, 2)), pathOf(goes(half, -2, 1), goes(half, 2, -1)),
			pathOf(goes(full, 1, -2)), pathOf(goes(full, -2, 1)), pathOf(goes(full, -1, -1)),
		}},
		{"B2", []int{1, 0}, [][]impl.Step{pathOf(goes(full, 1, 0)), pathOf(goes(full, -1, 2)), pathOf(goes(half, 1, -2), goes(half, -1, 2)), pathOf(goes(full, 1, -2)), pathOf(goes(full, -1, 0))}},
		{"B2", []int{0, 1}, [][]impl.Step{pathOf(goes(full, 0, 1)), pathOf(goes(full, 1, -1)), pathOf(goes(full, -1, 1)), pathOf(goes(full, 0, -1))}},
		{"G2", []int{1, 0}, [][]impl.Step{
			pathOf(goes(full, 1, 0)), pathOf(goes(full, -1, 1)), pathOf(goes(full, 2, -1)), pathOf(goes(half, -2, 1), goes(half, 2, -1)),
			pathOf(goes(full, -2, 1)), pathOf(goes(full, 1, -1)), pathOf(goes(full, -1, 0)),
		}},
		{"A1+A1", []int{1, 1}, [][]impl.Step{pathOf(goes(full, 1, 1)), pathOf(goes(full, -1, 1)), pathOf(goes(full, 1, -1)), pathOf(goes(full, -1, -1))}},
	} {
		mustPaths(t, e, impl.PathsOf(cartanNamed(t, e.name), e.w), e.want)
	}
}

// TestAllPaths says that the paths are those in the order in which LowerPath finds them, and have Ways of one orbit.
func TestAllPaths(t *testing.T) {
	for _, k := range highestPaths() {
		got := impl.PathsOf(k.c, k.w)
		mustPaths(t, k.w, got, k.paths)
		if len(got) != sizeBy(k.terms) {
			t.Error(k.name(), k.w, len(got))
		}
		orbit := map[spot]bool{}
		for _, w := range orbitBy(k.c, k.w) {
			orbit[spotOf(w)] = true
		}
		for _, p := range got {
			if !validPath(k.c.Rank, p) || slices.ContainsFunc(p, func(s impl.Step) bool { return !orbit[spotOf(s.Way)] }) {
				t.Error(k.name(), k.w, p)
			}
		}
	}
}

// TestLimitOfPaths has highest weights of dimensions about the limit, and ones with Ways of 12 and beyond.
func TestLimitOfPaths(t *testing.T) {
	at, above, steep := 0, 0, 0
	for _, k := range characterTypes() {
		for _, w := range allVectors(4, k.c.Rank) {
			n := int(dimensionBy(k, w).Int64())
			isSteep := k.c.Rank == 2 && slices.ContainsFunc(orbitBy(k.c, w), func(v []int) bool { return slices.Max(v) >= 12 })
			if (n < 390 || n > 420) && !isSteep {
				continue
			}
			got := impl.PathsOf(k.c, w)
			character, ok := impl.PathCharacter(k.c, w)
			if n > 400 || isSteep {
				mustPaths(t, w, got, nil)
				mustNoTerms(t, w, character, ok)
			} else {
				mustTerms(t, w, character, ok, impl.WeightsOf(k.c, w))
			}
			switch {
			case isSteep:
				steep++
			case n == 400 && len(got) == 400:
				at++
			case n > 400 && n < 410:
				above++
			}
		}
	}
	if at < 4 || above < 4 || steep < 3 {
		t.Error(at, above, steep)
	}
}

func TestPathsOfNoHighestWeights(t *testing.T) {
	for _, k := range characterTypes() {
		for _, w := range noHighest(k.c.Rank) {
			mustPaths(t, w, impl.PathsOf(k.c, w), nil)
			got, ok := impl.PathCharacter(k.c, w)
			mustNoTerms(t, w, got, ok)
			got, ok = impl.TensorByPaths(k.c, make([]int, k.c.Rank), w)
			mustNoTerms(t, w, got, ok)
			got, ok = impl.TensorByPaths(k.c, w, make([]int, k.c.Rank))
			mustNoTerms(t, w, got, ok)
		}
	}
}

func TestExamplesOfPathCharacters(t *testing.T) {
	for _, e := range weightExamples() {
		got, ok := impl.PathCharacter(cartanNamed(t, e.name), e.w)
		if e.want == nil {
			mustNoTerms(t, e, got, ok)
			continue
		}
		mustTerms(t, e, got, ok, e.want)
	}
	for _, w := range [][]int{{3, 3, 3, 3}, {1, 1, 0, 0}, {0, 1, 0, 0}, {0, 0, 0, 4}} {
		got, ok := impl.PathCharacter(cartanNamed(t, "F4"), w)
		mustNoTerms(t, w, got, ok)
	}
}

// TestPathCharacters finds what the equation for counts and WeightsOf have found.
func TestPathCharacters(t *testing.T) {
	for i, k := range knownCharacters() {
		if k.c.Rank == 4 && sizeBy(k.terms) > 150 && i%9 > 0 {
			continue
		}
		got, ok := impl.PathCharacter(k.c, k.w)
		mustTerms(t, k.w, got, ok, k.terms)
		mustTerms(t, k.w, got, ok, impl.WeightsOf(k.c, k.w))
	}
}

// TestExamplesOfTensorsByPaths exchanges the weights: here, the dimension of the second one is limited.
func TestExamplesOfTensorsByPaths(t *testing.T) {
	for _, e := range tensorExamples() {
		got, ok := impl.TensorByPaths(cartanNamed(t, e.name), e.w, e.v)
		mustTerms(t, e, got, ok, e.want)
	}
	for _, e := range [][2][]int{{{0, 0, 0, 0}, {3, 3, 3, 3}}, {{0, 0, 0, 0}, {0, 1, 0, 0}}, {{4, 0, 0, 0}, {0, 0, 0, 0}}, {{0, 0, 0, -1}, {0, 0, 0, 1}}, {{0, 0, 0}, {0, 0, 0, 1}}} {
		got, ok := impl.TensorByPaths(cartanNamed(t, "F4"), e[0], e[1])
		mustNoTerms(t, e, got, ok)
	}
}

// TestTensorsByPaths finds what TensorOf finds, in both orders, for all pairs of small types and some of the others.
func TestTensorsByPaths(t *testing.T) {
	r := newRandom(922)
	for i, k := range knownCharacters() {
		all := allVectors(4, k.c.Rank)
		if k.c.Rank > 2 {
			if i%4 > 0 && sizeBy(k.terms) > 30 {
				continue
			}
			all = [][]int{all[r.IntN(len(all))], all[r.IntN(len(all))], k.w}
		}
		for _, v := range all {
			got, ok := impl.TensorByPaths(k.c, v, k.w)
			want, fine := impl.TensorOf(k.c, k.w, v)
			mustTerms(t, k.w, got, ok && fine, want)
			if other, fine := impl.TensorOf(k.c, v, k.w); fine {
				mustTerms(t, k.w, got, ok, other)
			}
		}
	}
}
