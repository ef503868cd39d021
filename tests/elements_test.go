package tests

import (
	"math"
	"math/rand/v2"
	"slices"
	"testing"

	"loop.example/g03109/impl"
)

func TestExamplesOfElements(t *testing.T) {
	for _, e := range []struct {
		name   string
		length int
		want   [][]int
	}{
		{"A1", 0, [][]int{{}}},
		{"A1", 1, [][]int{{0}}},
		{"A1", 2, nil},
		{"A2", 0, [][]int{{}}},
		{"A2", 1, [][]int{{0}, {1}}},
		{"A2", 2, [][]int{{0, 1}, {1, 0}}},
		{"A2", 3, [][]int{{0, 1, 0}}},
		{"A2", 4, nil},
		{"A2", -1, nil},
		{"B2", 3, [][]int{{0, 1, 0}, {1, 0, 1}}},
		{"B2", 4, [][]int{{0, 1, 0, 1}}},
		{"G2", 5, [][]int{{0, 1, 0, 1, 0}, {1, 0, 1, 0, 1}}},
		{"A1+A1", 2, [][]int{{0, 1}}},
		{"A3", 2, [][]int{{0, 1}, {0, 2}, {1, 0}, {1, 2}, {2, 1}}},
		{"A3", 3, [][]int{{0, 1, 0}, {0, 1, 2}, {0, 2, 1}, {1, 0, 2}, {1, 2, 1}, {2, 1, 0}}},
		{"B3", 3, [][]int{{0, 1, 0}, {0, 1, 2}, {0, 2, 1}, {1, 0, 2}, {1, 2, 1}, {2, 1, 0}, {2, 1, 2}}},
		{"F4", 24, [][]int{{0, 1, 0, 2, 1, 0, 2, 1, 2, 3, 2, 1, 0, 2, 1, 2, 3, 2, 1, 0, 2, 1, 2, 3}}},
		{"F4", 25, nil},
	} {
		mustLists(t, e.name, impl.ElementsOf(cartanNamed(t, e.name), e.length), e.want)
	}
}

func TestElementsByLength(t *testing.T) {
	eachGroup(620, func(r *rand.Rand, k knownType, g *weylGroup) {
		longest := len(g.longest())
		for n := range longest + 1 {
			mustLists(t, k.name(), impl.ElementsOf(k.c, n), g.ofLength(n))
		}
		for _, n := range []int{-1, -2, math.MinInt, -1 << 32, longest + 1, longest + 2, 60, 61, 1 << 32, math.MaxInt} {
			checkCount(t, k.name(), impl.ElementsOf(k.c, n), 0)
		}
	})
}

func TestExamplesOfLengthCounts(t *testing.T) {
	for name, want := range map[string][]int{
		"A1":    {1, 1},
		"A2":    {1, 2, 2, 1},
		"A3":    {1, 3, 5, 6, 5, 3, 1},
		"A4":    {1, 4, 9, 15, 20, 22, 20, 15, 9, 4, 1},
		"B2":    {1, 2, 2, 2, 1},
		"B3":    {1, 3, 5, 7, 8, 8, 7, 5, 3, 1},
		"C3":    {1, 3, 5, 7, 8, 8, 7, 5, 3, 1},
		"D4":    {1, 4, 9, 16, 23, 28, 30, 28, 23, 16, 9, 4, 1},
		"G2":    {1, 2, 2, 2, 2, 2, 1},
		"A1+A1": {1, 2, 1},
		"A1+A2": {1, 3, 4, 3, 1},
	} {
		mustVector(t, name, impl.LengthCounts(cartanNamed(t, name)), want)
	}
}

// TestLengthCounts also says that their series is the product of 1 + q + .. to the power m for all exponents m.
func TestLengthCounts(t *testing.T) {
	eachGroup(621, func(r *rand.Rand, k knownType, g *weylGroup) {
		product := []int{1}
		for _, m := range k.exponents() {
			product = convolution(product, slices.Repeat([]int{1}, m+1))
		}
		got := impl.LengthCounts(k.c)
		mustVector(t, k.name(), got, product)
		if len(got) != len(g.longest())+1 {
			t.Fatal(k.name(), got)
		}
		for n, count := range got {
			checkCount(t, k.name(), g.ofLength(n), count)
		}
	})
}

func TestWeylOrder(t *testing.T) {
	orders := map[string]int{"A1": 2, "A2": 6, "A3": 24, "A4": 120, "B2": 8, "B3": 48, "B4": 384, "C3": 48, "C4": 384, "D4": 192, "F4": 1152, "G2": 12}
	for _, k := range reorderedTypes() {
		want := 1
		for _, name := range k.partNames() {
			want *= orders[name]
		}
		if got := impl.WeylOrder(k.c); got != want || got != sumOfNumbers(impl.LengthCounts(k.c)) {
			t.Error(k.name(), got, want)
		}
	}
}

func TestExamplesOfIsBelow(t *testing.T) {
	for _, e := range []struct {
		name string
		u, v []int
		want bool
	}{
		{"A1", nil, nil, true},
		{"A1", nil, []int{0}, true},
		{"A1", []int{0}, nil, false},
		{"A1", []int{0}, []int{0}, true},
		// Both stand for the element of the empty word.
		{"A1", []int{0, 0}, nil, true},
		{"A1", []int{0}, []int{0, 0}, false},
		{"A1", make([]int, 59), make([]int, 60), false},
		{"A1", make([]int, 60), make([]int, 59), true},
		{"A2", []int{0}, []int{1}, false},
		{"A2", []int{1}, []int{0, 1}, true},
		{"A2", []int{0, 1}, []int{1, 0}, false},
		{"A2", []int{0, 1}, []int{1, 0, 1}, true},
		{"A2", []int{1, 0, 1}, []int{0, 1, 0}, true},
		{"A2", []int{0, 1, 0}, []int{0, 1}, false},
		{"A2", []int{0}, []int{0, 1, 1, 0}, false},
		{"A3", []int{0, 2}, []int{0, 1, 2}, true},
		{"A3", []int{2, 0}, []int{0, 1, 2}, true},
		{"A3", []int{0, 2}, []int{0, 1, 0}, false},
		{"A3", []int{0, 1, 0}, []int{1, 0, 2, 1}, true},
		{"A3", []int{0, 1, 2}, []int{1, 0, 2, 1}, false},
		{"A3", []int{2, 1, 0}, []int{1, 0, 2, 1}, false},
		{"A3", []int{0, 2, 1}, []int{1, 0, 2, 1}, true},
		{"A3", []int{1, 2, 1}, []int{2, 1, 0, 2}, true},
		{"B2", []int{0, 1, 0}, []int{1, 0, 1}, false},
		{"B2", []int{0, 1}, []int{1, 0, 1}, true},
		{"B2", []int{1, 0}, []int{1, 0, 1}, true},
		{"A1+A1", []int{0}, []int{1}, false},
		{"A1+A1", []int{1}, []int{1, 0}, true},
	} {
		if impl.IsBelow(cartanNamed(t, e.name), e.u, e.v) != e.want {
			t.Error(e.name, e.u, e.v)
		}
	}
}

// partsOf has the elements of all parts of a word, with elements left out in any places.
func (g *weylGroup) partsOf(word []int) map[string]bool {
	parts := map[string]bool{}
	for _, chosen := range allVectors(2, len(word)) {
		var part []int
		for i, isIn := range chosen {
			if isIn == 1 {
				part = append(part, word[i])
			}
		}
		parts[elementKey(g.c, part)] = true
	}
	return parts
}

func TestIsBelowForAllParts(t *testing.T) {
	for _, name := range []string{"A1", "A2", "B2", "G2", "A1+A1", "A1+A2", "G2+A1", "A3", "B3", "C3"} {
		c := cartanNamed(t, name)
		g := groupBy(c)
		for _, v := range g.words {
			parts := g.partsOf(v)
			for _, u := range g.words {
				if impl.IsBelow(c, u, v) != parts[elementKey(c, u)] {
					t.Error(name, u, v)
				}
			}
		}
	}
}

// below returns for an element which ones are below it: each further letter in front adds what it makes of those before.
func (g *weylGroup) below(word []int) map[string]bool {
	parts := map[string][]int{elementKey(g.c, nil): {}}
	for k := len(word) - 1; k >= 0; k-- {
		longer := map[string][]int{}
		for key, part := range parts {
			longer[key] = part
			next := g.normal(slices.Concat([]int{word[k]}, part))
			longer[elementKey(g.c, next)] = next
		}
		parts = longer
	}
	keys := map[string]bool{}
	for key := range parts {
		keys[key] = true
	}
	return keys
}

// TestIsBelow has words that are not normal, too.
func TestIsBelow(t *testing.T) {
	eachGroup(622, func(r *rand.Rand, k knownType, g *weylGroup) {
		for range 3 {
			v := randomVector(r, k.c.Rank, 1+r.IntN(16))
			if len(g.words) > 500 && len(v) > 12 {
				continue
			}
			parts := g.below(g.normal(v))
			for i, u := range g.words {
				if i%(1+len(g.words)/50) == 0 && impl.IsBelow(k.c, u, v) != parts[elementKey(k.c, u)] {
					t.Error(k.name(), u, v)
				}
			}
			for range 10 {
				u := randomVector(r, k.c.Rank, r.IntN(len(v)+3))
				if impl.IsBelow(k.c, u, v) != parts[elementKey(k.c, u)] {
					t.Error(k.name(), u, v)
				}
			}
		}
	})
}

// TestPairsOfBelow counts the pairs; for permutations, the books have the numbers.
func TestPairsOfBelow(t *testing.T) {
	for name, want := range map[string]int{"A1": 3, "A2": 19, "A3": 213, "A4": 3781, "B2": 33, "G2": 73, "A1+A1": 9, "A1+A2": 57, "A2+A2": 361} {
		c := cartanNamed(t, name)
		g := groupBy(c)
		count := 0
		for _, u := range g.words {
			for _, v := range g.words {
				if impl.IsBelow(c, u, v) {
					count++
				}
			}
		}
		if count != want {
			t.Error(name, count)
		}
	}
}

// TestLawsOfBelow says that the empty word is below all, that all are below the longest one, which exchanges the order,
// and that inverses keep it.
func TestLawsOfBelow(t *testing.T) {
	eachGroup(623, func(r *rand.Rand, k knownType, g *weylGroup) {
		longest := g.longest()
		words := g.someWords(r)
		for i, u := range words {
			if !impl.IsBelow(k.c, nil, u) || !impl.IsBelow(k.c, u, longest) || !impl.IsBelow(k.c, u, u) {
				t.Error(k.name(), u)
			}
			v := words[(i*7+3)%len(words)]
			isBelow := impl.IsBelow(k.c, u, v)
			if isBelow && impl.IsBelow(k.c, v, u) != impl.SameElement(k.c, u, v) {
				t.Error(k.name(), u, v)
			}
			if impl.IsBelow(k.c, impl.InverseWord(k.c, u), impl.InverseWord(k.c, v)) != isBelow {
				t.Error(k.name(), u, v)
			}
			if impl.IsBelow(k.c, append(g.normal(v), longest...), append(g.normal(u), longest...)) != isBelow {
				t.Error(k.name(), u, v)
			}
		}
	})
}
