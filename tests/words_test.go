package tests

import (
	"math/rand/v2"
	"slices"
	"testing"

	"loop.example/g03109/impl"
)

func TestLimitsOfWeylGroups(t *testing.T) {
	if impl.MaxWord != 60 || impl.MaxOrbit != 1200 {
		t.Error(impl.MaxWord, impl.MaxOrbit)
	}
}

func TestWordOk(t *testing.T) {
	for _, k := range reorderedTypes() {
		last := k.c.Rank - 1
		for _, word := range [][]int{nil, {}, {0}, {last}, {0, 0, 0}, {last, 0, last}, make([]int, 59), make([]int, 60), slices.Repeat([]int{last}, 60)} {
			if !impl.WordOk(k.c, word) {
				t.Error(k.name(), word)
			}
		}
		for _, word := range noWords(k.c.Rank) {
			if impl.WordOk(k.c, word) {
				t.Error(k.name(), word)
			}
		}
	}
}

func TestExamplesOfActWeight(t *testing.T) {
	for _, e := range []struct {
		name          string
		word, w, want []int
	}{
		{"A1", nil, []int{5}, []int{5}},
		{"A1", []int{0}, []int{5}, []int{-5}},
		{"A1", []int{0}, []int{-1000}, []int{1000}},
		{"A1", []int{0, 0}, []int{5}, []int{5}},
		{"A1", make([]int, 60), []int{1}, []int{1}},
		{"A1", make([]int, 59), []int{1}, []int{-1}},
		// The last letter acts first.
		{"A2", []int{0, 1}, []int{1, 0}, []int{-1, 1}},
		{"A2", []int{1, 0}, []int{1, 0}, []int{0, -1}},
		{"A2", []int{1, 0}, []int{0, 1}, []int{1, -1}},
		{"A2", []int{0, 1}, []int{0, 1}, []int{-1, 0}},
		{"A2", []int{0, 1, 0}, []int{2, 5}, []int{-5, -2}},
		// The number by which another one changes stands in its own row.
		{"B2", []int{0}, []int{1, 0}, []int{-1, 2}},
		{"B2", []int{1}, []int{0, 1}, []int{1, -1}},
		{"G2", []int{0}, []int{1, 0}, []int{-1, 1}},
		{"G2", []int{1}, []int{0, 1}, []int{3, -1}},
		{"G2", []int{1, 0, 1}, []int{1, 1}, []int{5, -3}},
		{"C3", []int{1}, []int{0, 1, 0}, []int{1, -1, 1}},
		{"C3", []int{2}, []int{0, 0, 1}, []int{0, 2, -1}},
		{"F4", []int{1}, []int{0, 1, 0, 0}, []int{1, -1, 2, 0}},
		{"F4", []int{2}, []int{0, 0, 1, 0}, []int{0, 1, -1, 1}},
		{"D4", []int{1}, []int{0, 1, 0, 0}, []int{1, -1, 1, 1}},
		{"A1+A1", []int{0, 1}, []int{3, -4}, []int{-3, 4}},
		{"A1+B2", []int{2, 0}, []int{7, 0, 1}, []int{-7, 1, -1}},
		// Results may be beyond 1000.
		{"A2", []int{0}, []int{1000, 1000}, []int{-1000, 2000}},
		{"B2", []int{0}, []int{1000, 1000}, []int{-1000, 3000}},
		{"G2", []int{1}, []int{-1000, -1000}, []int{-4000, 1000}},
		// They may be so in between alone, too.
		{"A2", []int{0, 0}, []int{1000, 1000}, []int{1000, 1000}},
	} {
		mustVector(t, e.name, impl.ActWeight(cartanNamed(t, e.name), e.word, e.w), e.want)
	}
}

func TestActWeightByDefinition(t *testing.T) {
	eachGroup(600, func(r *rand.Rand, k knownType, g *weylGroup) {
		weights := someWeights(r, k.c.Rank)
		for i, word := range g.someWords(r) {
			for j, w := range weights {
				if (i+j)%3 == 0 || len(word) < 2 {
					mustVector(t, k.name(), impl.ActWeight(k.c, word, w), actedBy(k.c, word, w, turnedBy))
				}
			}
		}
	})
}

func TestExamplesOfActRoot(t *testing.T) {
	for _, e := range []struct {
		name          string
		word, x, want []int
	}{
		{"A1", nil, []int{1}, []int{1}},
		{"A1", []int{0}, []int{1000}, []int{-1000}},
		{"A2", []int{0, 1}, []int{1, 0}, []int{0, 1}},
		{"A2", []int{1, 0}, []int{1, 0}, []int{-1, -1}},
		{"A2", []int{0, 1, 0}, []int{3, 4}, []int{-4, -3}},
		{"B2", []int{0}, []int{0, 1}, []int{1, 1}},
		{"B2", []int{1}, []int{1, 0}, []int{1, 2}},
		{"G2", []int{0}, []int{0, 1}, []int{3, 1}},
		{"G2", []int{1}, []int{1, 0}, []int{1, 1}},
		{"G2", []int{1, 0}, []int{0, 1}, []int{3, 2}},
		{"F4", []int{2}, []int{0, 1, 0, 0}, []int{0, 1, 2, 0}},
		{"C3", []int{1}, []int{0, 0, 1}, []int{0, 2, 1}},
		{"A1+A1", []int{1}, []int{6, 7}, []int{6, -7}},
		{"A2", []int{0}, []int{-1000, 1000}, []int{2000, 1000}},
		{"G2", []int{0}, []int{-1000, 1000}, []int{4000, 1000}},
	} {
		mustVector(t, e.name, impl.ActRoot(cartanNamed(t, e.name), e.word, e.x), e.want)
	}
}

// TestActRootByDefinition also says that words do the same to a lattice element and to its weight.
func TestActRootByDefinition(t *testing.T) {
	eachGroup(601, func(r *rand.Rand, k knownType, g *weylGroup) {
		elements := [][]int{randomLattice(r, k.c.Rank), randomLattice(r, k.c.Rank), slices.Repeat([]int{1000}, k.c.Rank), make([]int, k.c.Rank)}
		for i := range k.c.Rank {
			elements = append(elements, unitVector(k.c.Rank, i))
		}
		for _, word := range g.someWords(r) {
			for _, x := range elements {
				got := impl.ActRoot(k.c, word, x)
				mustVector(t, k.name(), got, actedBy(k.c, word, x, reflectedBy))
				if w := weightBy(k.c, x); isWeight(w) {
					mustVector(t, k.name(), impl.ActWeight(k.c, word, w), weightBy(k.c, got))
				}
			}
		}
	})
}

func TestWordsPermuteRoots(t *testing.T) {
	eachGroup(602, func(r *rand.Rand, k knownType, g *weylGroup) {
		roots := rootsBy(k.c)
		seen := map[string]bool{}
		word := randomVector(r, k.c.Rank, 60)
		for _, x := range roots {
			y := impl.ActRoot(k.c, word, x)
			if !impl.IsRoot(k.c, y) || seen[keyOf(y)] {
				t.Error(k.name(), word, x, y)
			}
			seen[keyOf(y)] = true
		}
	})
}

func TestExamplesOfNormalWords(t *testing.T) {
	for _, e := range []struct {
		name       string
		word, want []int
	}{
		{"A1", nil, nil},
		{"A1", []int{0}, []int{0}},
		{"A1", []int{0, 0}, nil},
		{"A1", make([]int, 59), []int{0}},
		{"A1", make([]int, 60), nil},
		{"A2", []int{0, 0, 1}, []int{1}},
		{"A2", []int{1, 0}, []int{1, 0}},
		{"A2", []int{1, 0, 1}, []int{0, 1, 0}},
		{"A2", []int{0, 1, 0, 1}, []int{1, 0}},
		{"A2", []int{0, 1, 0, 1, 0, 1}, nil},
		{"A3", []int{2, 0}, []int{0, 2}},
		{"A3", []int{2, 1, 0}, []int{2, 1, 0}},
		{"A3", []int{2, 1, 2}, []int{1, 2, 1}},
		{"A3", []int{2, 1, 2, 0}, []int{1, 2, 1, 0}},
		{"A3", []int{2, 0, 1}, []int{0, 2, 1}},
		{"A1+A1", []int{1, 0}, []int{0, 1}},
		{"A1+A1", []int{1, 0, 1}, []int{0}},
		{"B2", []int{1, 0, 1, 0}, []int{0, 1, 0, 1}},
		{"B2", []int{1, 0, 1, 0, 1}, []int{0, 1, 0}},
		{"B2", []int{1, 0, 1}, []int{1, 0, 1}},
		{"G2", []int{1, 0, 1, 0, 1, 0}, []int{0, 1, 0, 1, 0, 1}},
		{"G2", []int{1, 0, 1, 0, 1, 0, 1}, []int{0, 1, 0, 1, 0}},
		{"D4", []int{3, 2, 0}, []int{0, 2, 3}},
		{"F4", []int{2, 1, 2, 1, 2}, []int{1, 2, 1}},
		{"F4", []int{3, 2, 3}, []int{2, 3, 2}},
	} {
		mustVector(t, e.name, impl.NormalWord(cartanNamed(t, e.name), e.word), e.want)
	}
}

func TestNormalWords(t *testing.T) {
	eachGroup(603, func(r *rand.Rand, k knownType, g *weylGroup) {
		for _, word := range g.words {
			mustVector(t, k.name(), impl.NormalWord(k.c, word), word)
		}
		for _, word := range g.someWords(r) {
			mustVector(t, k.name(), impl.NormalWord(k.c, word), g.normal(word))
		}
	})
}

// TestNormalWordsAmongAllWords goes through all words, shorter ones first, those of one length in lexicographic order.
func TestNormalWordsAmongAllWords(t *testing.T) {
	for _, e := range []struct {
		name   string
		longer int
	}{{"A1", 9}, {"A2", 5}, {"B2", 5}, {"G2", 3}, {"A1+A1", 5}, {"A1+A2", 3}, {"A3", 1}, {"B3", 0}, {"A1+A1+A1", 3}} {
		c := cartanNamed(t, e.name)
		first := map[string][]int{}
		for n := range len(impl.PositiveRoots(c)) + e.longer + 1 {
			for _, word := range allVectors(c.Rank, n) {
				key := elementKey(c, word)
				if first[key] == nil {
					first[key] = word
				}
				mustVector(t, e.name, impl.NormalWord(c, word), first[key])
			}
		}
		if len(first) != impl.WeylOrder(c) {
			t.Error(e.name, len(first))
		}
	}
}

func TestExamplesOfSameElement(t *testing.T) {
	for _, e := range []struct {
		name string
		u, v []int
		want bool
	}{
		{"A1", nil, nil, true},
		{"A1", nil, []int{0}, false},
		{"A1", []int{0, 0}, nil, true},
		{"A1", make([]int, 60), make([]int, 2), true},
		{"A1", make([]int, 60), make([]int, 59), false},
		{"A2", []int{0, 1}, []int{1, 0}, false},
		{"A2", []int{0, 1, 0}, []int{1, 0, 1}, true},
		{"A3", []int{0, 2}, []int{2, 0}, true},
		{"B2", []int{0, 1, 0}, []int{1, 0, 1}, false},
		{"B2", []int{0, 1, 0, 1}, []int{1, 0, 1, 0}, true},
		{"G2", []int{0, 1, 0, 1}, []int{1, 0, 1, 0}, false},
		{"G2", []int{0, 1, 0, 1, 0, 1}, []int{1, 0, 1, 0, 1, 0}, true},
		{"A1+A1", []int{0, 1, 0}, []int{1}, true},
		{"A1+A1", []int{0}, []int{1}, false},
	} {
		c := cartanNamed(t, e.name)
		if impl.SameElement(c, e.u, e.v) != e.want || impl.SameElement(c, e.v, e.u) != e.want {
			t.Error(e.name, e.u, e.v)
		}
	}
}

func TestSameElement(t *testing.T) {
	eachGroup(604, func(r *rand.Rand, k knownType, g *weylGroup) {
		words := g.someWords(r)
		for i, u := range words {
			if !impl.SameElement(k.c, u, g.normal(u)) {
				t.Error(k.name(), u)
			}
			for j := i % 3; j < len(words); j += 3 {
				if impl.SameElement(k.c, u, words[j]) != (elementKey(k.c, u) == elementKey(k.c, words[j])) {
					t.Error(k.name(), u, words[j])
				}
			}
		}
	})
}

func TestExamplesOfInverses(t *testing.T) {
	for _, e := range []struct {
		name       string
		word, want []int
	}{
		{"A1", nil, nil},
		{"A1", []int{0}, []int{0}},
		{"A1", []int{0, 0}, nil},
		{"A2", []int{0, 1}, []int{1, 0}},
		{"A2", []int{1, 0, 1}, []int{0, 1, 0}},
		{"A3", []int{0, 1, 2}, []int{2, 1, 0}},
		{"A3", []int{0, 2, 1}, []int{1, 0, 2}},
		{"A3", []int{1, 0, 2}, []int{0, 2, 1}},
		{"A1+A1", []int{0, 1}, []int{0, 1}},
		{"B2", []int{0, 1, 0}, []int{0, 1, 0}},
		{"G2", []int{1, 0, 1, 0}, []int{0, 1, 0, 1}},
	} {
		mustVector(t, e.name, impl.InverseWord(cartanNamed(t, e.name), e.word), e.want)
	}
}

// TestInverses says that a word and its inverse undo each other on weights, and that twice the inverse is the normal word.
func TestInverses(t *testing.T) {
	eachGroup(605, func(r *rand.Rand, k knownType, g *weylGroup) {
		for _, word := range g.someWords(r) {
			inverse := impl.InverseWord(k.c, word)
			normal := g.normal(word)
			mustVector(t, k.name(), inverse, g.normal(inverse))
			if !impl.SameElement(k.c, slices.Concat(normal, inverse), nil) || !impl.SameElement(k.c, slices.Concat(inverse, normal), nil) {
				t.Error(k.name(), word, inverse)
			}
			mustVector(t, k.name(), impl.InverseWord(k.c, inverse), normal)
		}
	})
}

func TestExamplesOfInversions(t *testing.T) {
	for _, e := range []struct {
		name string
		word []int
		want [][]int
	}{
		{"A1", nil, nil},
		{"A1", []int{0}, [][]int{{1}}},
		{"A1", []int{0, 0}, nil},
		{"A2", []int{0}, [][]int{{1, 0}}},
		{"A2", []int{0, 1}, [][]int{{0, 1}, {1, 1}}},
		{"A2", []int{1, 0}, [][]int{{1, 0}, {1, 1}}},
		{"A2", []int{1, 0, 1}, [][]int{{1, 0}, {0, 1}, {1, 1}}},
		{"A2", []int{0, 1, 0, 1}, [][]int{{1, 0}, {1, 1}}},
		{"B2", []int{0, 1}, [][]int{{0, 1}, {1, 2}}},
		{"B2", []int{1, 0}, [][]int{{1, 0}, {1, 1}}},
		{"G2", []int{0, 1, 0}, [][]int{{1, 0}, {2, 1}, {3, 1}}},
		{"G2", []int{1, 0, 1}, [][]int{{0, 1}, {1, 1}, {3, 2}}},
		{"A1+A1", []int{1}, [][]int{{0, 1}}},
		{"A1+A2", []int{0, 2, 1}, [][]int{{1, 0, 0}, {0, 1, 0}, {0, 1, 1}}},
	} {
		mustLists(t, e.name, impl.InversionsOf(cartanNamed(t, e.name), e.word), e.want)
	}
}

// TestInversions also says that there are as many of them as letters in the normal word.
func TestInversions(t *testing.T) {
	eachGroup(606, func(r *rand.Rand, k knownType, g *weylGroup) {
		positive := positiveBy(k.c)
		for _, word := range g.someWords(r) {
			var want [][]int
			for _, x := range positive {
				if slices.Min(actedBy(k.c, word, x, reflectedBy)) < 0 {
					want = append(want, x)
				}
			}
			mustLists(t, k.name(), impl.InversionsOf(k.c, word), want)
			if len(want) != len(impl.NormalWord(k.c, word)) {
				t.Error(k.name(), word, want)
			}
		}
	})
}

func TestExamplesOfLongestWords(t *testing.T) {
	for name, want := range map[string][]int{
		"A1":          {0},
		"A2":          {0, 1, 0},
		"A3":          {0, 1, 0, 2, 1, 0},
		"A4":          {0, 1, 0, 2, 1, 0, 3, 2, 1, 0},
		"B2":          {0, 1, 0, 1},
		"B3":          {0, 1, 0, 2, 1, 0, 2, 1, 2},
		"B4":          {0, 1, 0, 2, 1, 0, 3, 2, 1, 0, 3, 2, 1, 3, 2, 3},
		"C3":          {0, 1, 0, 2, 1, 0, 2, 1, 2},
		"C4":          {0, 1, 0, 2, 1, 0, 3, 2, 1, 0, 3, 2, 1, 3, 2, 3},
		"D4":          {0, 1, 0, 2, 1, 0, 3, 1, 0, 2, 1, 3},
		"F4":          {0, 1, 0, 2, 1, 0, 2, 1, 2, 3, 2, 1, 0, 2, 1, 2, 3, 2, 1, 0, 2, 1, 2, 3},
		"G2":          {0, 1, 0, 1, 0, 1},
		"A1+A1":       {0, 1},
		"A1+A1+A1+A1": {0, 1, 2, 3},
		"B2+A1":       {0, 1, 0, 1, 2},
		"A1+A2":       {0, 1, 2, 1},
		"G2+A2":       {0, 1, 0, 1, 0, 1, 2, 3, 2},
		"A1+B3":       {0, 1, 2, 1, 3, 2, 1, 3, 2, 3},
	} {
		mustVector(t, name, impl.LongestWord(cartanNamed(t, name)), want)
	}
	// The rows of B2 and A1, mixed.
	mixed := impl.Cartan{Rank: 3, Data: []int{2, 0, -2, 0, 2, 0, -1, 0, 2}}
	mustVector(t, "mixed", impl.LongestWord(mixed), []int{0, 1, 2, 0, 2})
}

// TestLongestWords says that each positive root is taken to one that is not positive, and that no word is longer.
func TestLongestWords(t *testing.T) {
	eachGroup(607, func(r *rand.Rand, k knownType, g *weylGroup) {
		word := impl.LongestWord(k.c)
		mustVector(t, k.name(), word, g.longest())
		positive := positiveBy(k.c)
		for _, x := range positive {
			if y := impl.ActRoot(k.c, word, x); len(y) == 0 || slices.Max(y) > 0 {
				t.Error(k.name(), x, y)
			}
		}
		mustLists(t, k.name(), impl.InversionsOf(k.c, word), positive)
		if len(word) != len(positive) {
			t.Error(k.name(), word)
		}
	})
}

func checkNoWord(t *testing.T, c impl.Cartan, word []int) {
	t.Helper()
	w := make([]int, c.Rank)
	for name, list := range map[string][]int{
		"ActWeight": impl.ActWeight(c, word, w), "ActRoot": impl.ActRoot(c, word, w),
		"NormalWord": impl.NormalWord(c, word), "InverseWord": impl.InverseWord(c, word),
	} {
		if len(list) != 0 {
			t.Error(name, c, word, list)
		}
	}
	if list := impl.InversionsOf(c, word); len(list) != 0 {
		t.Error(c, word, list)
	}
	for _, other := range [][]int{nil, {0}, word} {
		if impl.SameElement(c, word, other) || impl.SameElement(c, other, word) || impl.IsBelow(c, word, other) || impl.IsBelow(c, other, word) {
			t.Error(c, word, other)
		}
	}
}

func TestListsThatAreNoWords(t *testing.T) {
	for _, k := range reorderedTypes() {
		for _, word := range noWords(k.c.Rank) {
			checkNoWord(t, k.c, word)
		}
	}
}

// TestLongestListsOfLetters has words of 60 letters, which all functions take, and of one more, which none takes.
func TestLongestListsOfLetters(t *testing.T) {
	eachGroup(608, func(r *rand.Rand, k knownType, g *weylGroup) {
		word := randomVector(r, k.c.Rank, 60)
		w := slices.Repeat([]int{3}, k.c.Rank)
		if !impl.WordOk(k.c, word) || !impl.SameElement(k.c, word, word) || !impl.IsBelow(k.c, word, word) {
			t.Error(k.name(), word)
		}
		mustVector(t, k.name(), impl.ActWeight(k.c, word, w), actedBy(k.c, word, w, turnedBy))
		mustVector(t, k.name(), impl.ActRoot(k.c, word, w), actedBy(k.c, word, w, reflectedBy))
		normal := g.normal(word)
		mustVector(t, k.name(), impl.NormalWord(k.c, word), normal)
		if !impl.SameElement(k.c, append(impl.InverseWord(k.c, word), normal...), nil) {
			t.Error(k.name(), word)
		}
		checkCount(t, k.name(), impl.InversionsOf(k.c, word), len(normal))
		checkNoWord(t, k.c, append(word, 0))
	})
}

// TestNoWeightsOfWords has lists that are no weights, which are the same as those that are no lattice elements.
func TestNoWeightsOfWords(t *testing.T) {
	for _, k := range reorderedTypes() {
		for _, w := range noLattice(k.c.Rank) {
			for _, word := range [][]int{nil, {0}, {0, 0}} {
				if got := impl.ActWeight(k.c, word, w); len(got) != 0 {
					t.Error(k.name(), word, w, got)
				}
				if got := impl.ActRoot(k.c, word, w); len(got) != 0 {
					t.Error(k.name(), word, w, got)
				}
			}
		}
	}
}
