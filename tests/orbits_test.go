package tests

import (
	"math/rand/v2"
	"slices"
	"testing"

	"loop.example/g03109/impl"
)

func checkDominant(t *testing.T, what string, c impl.Cartan, w []int, want []int, wantWord []int) {
	t.Helper()
	got, word := impl.DominantOf(c, w)
	if !slices.Equal(got, want) || !slices.Equal(word, wantWord) {
		t.Error(what, w, got, word, want, wantWord)
	}
}

func TestExamplesOfDominant(t *testing.T) {
	for _, e := range []struct {
		name          string
		w, want, word []int
	}{
		{"A1", []int{0}, []int{0}, nil},
		{"A1", []int{5}, []int{5}, nil},
		{"A1", []int{-5}, []int{5}, []int{0}},
		{"A1", []int{-1000}, []int{1000}, []int{0}},
		{"A2", []int{-1, 1}, []int{1, 0}, []int{0}},
		// The first reflection is the last one in the word.
		{"A2", []int{0, -1}, []int{1, 0}, []int{0, 1}},
		{"A2", []int{-1, 0}, []int{0, 1}, []int{1, 0}},
		{"A2", []int{-1, -1}, []int{1, 1}, []int{0, 1, 0}},
		{"A2", []int{1, -2}, []int{1, 1}, []int{0, 1}},
		{"A2", []int{-500, -500}, []int{500, 500}, []int{0, 1, 0}},
		{"B2", []int{-1, 0}, []int{1, 0}, []int{0, 1, 0}},
		{"B2", []int{0, -1}, []int{0, 1}, []int{1, 0, 1}},
		{"B2", []int{-1, -1}, []int{1, 1}, []int{1, 0, 1, 0}},
		{"B2", []int{-1000, 1000}, []int{0, 1000}, []int{1, 0}},
		{"G2", []int{1, -1}, []int{1, 0}, []int{0, 1, 0, 1}},
		{"A1+A1", []int{-3, -4}, []int{3, 4}, []int{1, 0}},
		{"A1+A1", []int{3, -4}, []int{3, 4}, []int{1}},
		{"A3", []int{-1, 0, -1}, []int{1, 0, 1}, []int{0, 1, 2, 1, 0}},
		{"F4", []int{-1, 0, 0, 0}, []int{1, 0, 0, 0}, []int{0, 1, 2, 3, 1, 2, 0, 1, 2, 3, 0, 1, 2, 1, 0}},
		// A weight on the way is beyond 1000.
		{"A2", []int{-500, -501}, nil, nil},
		{"A2", []int{-1000, -1}, nil, nil},
		{"B2", []int{-500, 0}, []int{500, 0}, []int{0, 1, 0}},
		{"B2", []int{-501, 0}, nil, nil},
		{"B2", []int{0, -1000}, []int{0, 1000}, []int{1, 0, 1}},
		{"G2", []int{0, -333}, []int{0, 333}, []int{1, 0, 1, 0, 1}},
		{"G2", []int{0, -334}, nil, nil},
		// What is dominant has no way.
		{"A2", []int{1000, 1000}, []int{1000, 1000}, nil},
		{"G2", []int{1000, 1000}, []int{1000, 1000}, nil},
		{"A2", []int{1001, 0}, nil, nil},
		{"A2", []int{0, -1001}, nil, nil},
		{"A2", []int{1}, nil, nil},
		{"A2", []int{1, 0, 0}, nil, nil},
	} {
		checkDominant(t, e.name, cartanNamed(t, e.name), e.w, e.want, e.word)
	}
}

// dominantBy follows the words of the document; it returns nothing if a weight on the way is none.
func dominantBy(c impl.Cartan, w []int) ([]int, []int) {
	var word []int
	for isWeight(w) {
		i := slices.IndexFunc(w, func(n int) bool { return n < 0 })
		if i < 0 {
			return w, word
		}
		word = slices.Insert(word, 0, i)
		w = turnedBy(c, i, w)
	}
	return nil, nil
}

// TestDominant also says that the word takes the weight to the dominant one.
func TestDominant(t *testing.T) {
	failed := 0
	eachGroup(640, func(r *rand.Rand, k knownType, g *weylGroup) {
		for _, w := range someWeights(r, k.c.Rank) {
			want, word := dominantBy(k.c, w)
			checkDominant(t, k.name(), k.c, w, want, word)
			if len(want) == 0 {
				failed++
				continue
			}
			mustVector(t, k.name(), impl.ActWeight(k.c, word, w), want)
			mustVector(t, k.name(), impl.NormalWord(k.c, word), g.normal(word))
		}
	})
	if failed < 100 {
		t.Error(failed)
	}
}

// TestDominantOfRegular says that all words of a group are found from what they make of a weight off all walls.
func TestDominantOfRegular(t *testing.T) {
	eachGroup(641, func(r *rand.Rand, k knownType, g *weylGroup) {
		w := make([]int, k.c.Rank)
		for i := range w {
			w[i] = 1 + r.IntN(20)
		}
		for i := 0; i < len(g.words); i += 1 + len(g.words)/50 {
			moved := actedBy(k.c, g.words[i], w, turnedBy)
			back := slices.Clone(g.words[i])
			slices.Reverse(back)
			checkDominant(t, k.name(), k.c, moved, w, back)
		}
	})
}

func TestExamplesOfOrbits(t *testing.T) {
	for _, e := range []struct {
		name string
		w    []int
		want [][]int
	}{
		{"A1", []int{0}, [][]int{{0}}},
		{"A1", []int{5}, [][]int{{5}, {-5}}},
		{"A1", []int{-5}, [][]int{{5}, {-5}}},
		{"A1", []int{1000}, [][]int{{1000}, {-1000}}},
		{"A1", []int{-1000}, [][]int{{1000}, {-1000}}},
		{"A1", []int{1001}, nil},
		{"A1", []int{-1001}, nil},
		{"A2", []int{0, 0}, [][]int{{0, 0}}},
		{"A2", []int{1, 0}, [][]int{{1, 0}, {0, -1}, {-1, 1}}},
		{"A2", []int{0, 1}, [][]int{{1, -1}, {0, 1}, {-1, 0}}},
		{"A2", []int{1, 1}, [][]int{{2, -1}, {1, 1}, {1, -2}, {-1, 2}, {-1, -1}, {-2, 1}}},
		{"A2", []int{-1, 2}, [][]int{{2, -1}, {1, 1}, {1, -2}, {-1, 2}, {-1, -1}, {-2, 1}}},
		{"A2", []int{1000, 0}, [][]int{{1000, 0}, {0, -1000}, {-1000, 1000}}},
		{"B2", []int{1, 0}, [][]int{{1, 0}, {1, -2}, {-1, 2}, {-1, 0}}},
		{"B2", []int{0, 1}, [][]int{{1, -1}, {0, 1}, {0, -1}, {-1, 1}}},
		{"B2", []int{500, 0}, [][]int{{500, 0}, {500, -1000}, {-500, 1000}, {-500, 0}}},
		{"G2", []int{1, 0}, [][]int{{2, -1}, {1, 0}, {1, -1}, {-1, 1}, {-1, 0}, {-2, 1}}},
		{"A1+A1", []int{1, 2}, [][]int{{1, 2}, {1, -2}, {-1, 2}, {-1, -2}}},
		{"A1+A1", []int{0, 2}, [][]int{{0, 2}, {0, -2}}},
		// One weight, be it the given one or not, is beyond 1000.
		{"A2", []int{500, 501}, nil},
		{"A2", []int{-1000, 1}, [][]int{{1000, -999}, {999, -1000}, {1, 999}, {-1, 1000}, {-999, -1}, {-1000, 1}}},
		{"B2", []int{501, 0}, nil},
		{"G2", []int{0, 334}, nil},
		{"G2", []int{1000, 1000}, nil},
		{"A2", []int{1}, nil},
		{"A2", []int{1, 0, 0}, nil},
		{"A2", nil, nil},
	} {
		mustLists(t, e.name, impl.OrbitOf(cartanNamed(t, e.name), e.w), e.want)
	}
}

// orbitBy returns nothing if one of the weights is none.
func orbitBy(c impl.Cartan, w []int) [][]int {
	list := [][]int{w}
	seen := map[string]bool{keyOf(w): true}
	for k := 0; k < len(list); k++ {
		if !isWeight(list[k]) {
			return nil
		}
		for i := range c.Rank {
			if v := turnedBy(c, i, list[k]); !seen[keyOf(v)] {
				seen[keyOf(v)] = true
				list = append(list, v)
			}
		}
	}
	slices.SortFunc(list, func(x, y []int) int { return -slices.Compare(x, y) })
	return list
}

// TestOrbits also says that the order of the group is that of the stabilizer times the number of weights.
func TestOrbits(t *testing.T) {
	empty := 0
	eachGroup(642, func(r *rand.Rand, k knownType, g *weylGroup) {
		weights := someWeights(r, k.c.Rank)
		for i := r.IntN(4); i < len(weights); i += 1 + len(g.words)/100 {
			want := orbitBy(k.c, weights[i])
			mustLists(t, k.name(), impl.OrbitOf(k.c, weights[i]), want)
			stabilizer := impl.StabilizerOrder(k.c, weights[i])
			if len(want) == 0 {
				empty++
				if stabilizer != 0 {
					t.Error(k.name(), weights[i], stabilizer)
				}
			} else if stabilizer*len(want) != len(g.words) {
				t.Error(k.name(), weights[i], stabilizer)
			}
		}
	})
	if empty < 100 {
		t.Error(empty)
	}
}

// TestOrbitsAtTheLimit has multiples of each orbit, of which the greatest number is 1000 or just more.
func TestOrbitsAtTheLimit(t *testing.T) {
	eachGroup(643, func(r *rand.Rand, k knownType, g *weylGroup) {
		if len(g.words) > 200 {
			return
		}
		for i := range k.c.Rank {
			base := unitVector(k.c.Rank, i)
			greatest := 0
			for _, w := range orbitBy(k.c, base) {
				greatest = max(greatest, slices.Max(w), -slices.Min(w))
			}
			n := 1000 / greatest
			at, beyond := stepped(make([]int, k.c.Rank), n, base), stepped(make([]int, k.c.Rank), n+1, base)
			mustLists(t, k.name(), impl.OrbitOf(k.c, at), orbitBy(k.c, at))
			if len(impl.OrbitOf(k.c, at)) == 0 || impl.StabilizerOrder(k.c, at) != impl.StabilizerOrder(k.c, base) {
				t.Error(k.name(), at)
			}
			if len(impl.OrbitOf(k.c, beyond)) != 0 || impl.StabilizerOrder(k.c, beyond) != 0 {
				t.Error(k.name(), beyond)
			}
		}
	})
}

// TestLargestOrbits says that the limit of weights is not reached: the largest group has fewer elements.
func TestLargestOrbits(t *testing.T) {
	largest := 0
	for _, k := range knownTypes() {
		w := slices.Repeat([]int{1}, k.c.Rank)
		got := impl.OrbitOf(k.c, w)
		checkCount(t, k.name(), got, impl.WeylOrder(k.c))
		if impl.StabilizerOrder(k.c, w) != 1 {
			t.Error(k.name())
		}
		largest = max(largest, len(got))
	}
	if largest != 1152 || largest > impl.MaxOrbit {
		t.Error(largest)
	}
	mustLists(t, "F4", impl.OrbitOf(cartanNamed(t, "F4"), []int{4, 3, 2, 1}), orbitBy(cartanNamed(t, "F4"), []int{4, 3, 2, 1}))
}

func TestExamplesOfStabilizers(t *testing.T) {
	for _, e := range []struct {
		name string
		w    []int
		want int
	}{
		{"A1", []int{0}, 2},
		{"A1", []int{1000}, 1},
		{"A1", []int{1001}, 0},
		{"A2", []int{0, 0}, 6},
		{"A2", []int{-1, 1}, 2},
		{"A2", []int{-1, -1}, 1},
		{"A2", []int{501, 500}, 0},
		{"A4", []int{1, 0, 0, 0}, 24},
		{"A4", []int{0, 1, 0, 0}, 12},
		{"B3", []int{0, 0, 1}, 6},
		{"B3", []int{1, 0, 0}, 8},
		{"D4", []int{0, 1, 0, 0}, 8},
		{"F4", []int{0, 0, 0, 0}, 1152},
		{"F4", []int{1, 0, 0, 0}, 48},
		{"F4", []int{0, 1, 0, 0}, 12},
		{"G2", []int{0, 333}, 2},
		{"G2", []int{0, 334}, 0},
		{"A1+A2", []int{0, 5, 0}, 4},
		{"A2", []int{1}, 0},
		{"A2", nil, 0},
	} {
		if got := impl.StabilizerOrder(cartanNamed(t, e.name), e.w); got != e.want {
			t.Error(e.name, e.w, got)
		}
	}
}

// TestStabilizers counts the elements that keep a weight.
func TestStabilizers(t *testing.T) {
	eachGroup(644, func(r *rand.Rand, k knownType, g *weylGroup) {
		if len(g.words) > 200 {
			return
		}
		for range 4 {
			w := randomVector(r, 3, k.c.Rank)
			count := 0
			for _, word := range g.words {
				if slices.Equal(actedBy(k.c, word, w, turnedBy), w) {
					count++
				}
			}
			if got := impl.StabilizerOrder(k.c, w); got != count {
				t.Error(k.name(), w, got, count)
			}
		}
	})
}

func TestListsThatAreNoWeights(t *testing.T) {
	for _, k := range reorderedTypes() {
		for _, w := range noLattice(k.c.Rank) {
			checkDominant(t, k.name(), k.c, w, nil, nil)
			checkCount(t, k.name(), impl.OrbitOf(k.c, w), 0)
			if got := impl.StabilizerOrder(k.c, w); got != 0 {
				t.Error(k.name(), w, got)
			}
		}
	}
}
