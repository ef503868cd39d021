package tests

import (
	"math"
	"math/big"
	"math/rand/v2"
	"slices"
	"testing"

	"loop.example/g03109/impl"
)

// TestDimensionsOfBooks has what books say of small modules.
func TestDimensionsOfBooks(t *testing.T) {
	for _, e := range []struct {
		name string
		w    []int
		want int
	}{
		{"A1", []int{0}, 1}, {"A1", []int{1}, 2}, {"A1", []int{3}, 4},
		{"A2", []int{0, 0}, 1}, {"A2", []int{1, 0}, 3}, {"A2", []int{1, 1}, 8}, {"A2", []int{3, 0}, 10}, {"A2", []int{2, 1}, 15}, {"A2", []int{3, 3}, 64},
		{"A3", []int{0, 1, 0}, 6}, {"A3", []int{1, 0, 1}, 15}, {"A3", []int{0, 2, 0}, 20}, {"A3", []int{1, 1, 1}, 64},
		{"A4", []int{0, 1, 0, 0}, 10}, {"A4", []int{1, 0, 0, 1}, 24}, {"A4", []int{1, 1, 0, 0}, 40}, {"A4", []int{1, 1, 1, 1}, 1024},
		{"B2", []int{1, 0}, 5}, {"B2", []int{0, 1}, 4}, {"B2", []int{0, 2}, 10}, {"B2", []int{2, 0}, 14}, {"B2", []int{1, 1}, 16},
		{"B3", []int{1, 0, 0}, 7}, {"B3", []int{0, 1, 0}, 21}, {"B3", []int{0, 0, 1}, 8}, {"B3", []int{0, 0, 2}, 35},
		{"B4", []int{1, 0, 0, 0}, 9}, {"B4", []int{0, 1, 0, 0}, 36}, {"B4", []int{0, 0, 1, 0}, 84}, {"B4", []int{0, 0, 0, 1}, 16},
		{"C3", []int{1, 0, 0}, 6}, {"C3", []int{0, 1, 0}, 14}, {"C3", []int{0, 0, 1}, 14}, {"C3", []int{2, 0, 0}, 21},
		{"C4", []int{1, 0, 0, 0}, 8}, {"C4", []int{0, 1, 0, 0}, 27}, {"C4", []int{0, 0, 1, 0}, 48}, {"C4", []int{0, 0, 0, 1}, 42},
		{"D4", []int{1, 0, 0, 0}, 8}, {"D4", []int{0, 0, 0, 1}, 8}, {"D4", []int{0, 1, 0, 0}, 28}, {"D4", []int{1, 0, 1, 0}, 56}, {"D4", []int{1, 0, 1, 1}, 350},
		{"F4", []int{0, 0, 0, 1}, 26}, {"F4", []int{1, 0, 0, 0}, 52}, {"F4", []int{0, 0, 1, 0}, 273}, {"F4", []int{0, 0, 0, 2}, 324}, {"F4", []int{0, 1, 0, 0}, 1274},
		{"G2", []int{1, 0}, 7}, {"G2", []int{0, 1}, 14}, {"G2", []int{2, 0}, 27}, {"G2", []int{1, 1}, 64}, {"G2", []int{3, 0}, 77}, {"G2", []int{0, 2}, 77}, {"G2", []int{2, 1}, 189},
		{"A1+A2", []int{2, 1, 1}, 24}, {"A2+A1", []int{1, 1, 2}, 24}, {"B2+G2", []int{1, 0, 0, 1}, 70}, {"A1+A1+A1+A1", []int{3, 2, 1, 0}, 24},
		// All factors are the same for equal numbers: as many as there are positive roots.
		{"F4", []int{1, 1, 1, 1}, 1 << 24}, {"F4", []int{3, 3, 3, 3}, 1 << 48}, {"D4", []int{3, 3, 3, 3}, 1 << 24}, {"C4", []int{2, 2, 2, 2}, 43046721},
		{"A1", []int{4}, 0}, {"A1", []int{-1}, 0}, {"A2", []int{1}, 0}, {"A2", []int{1, 0, 0}, 0}, {"A2", nil, 0}, {"A2", []int{0, 4}, 0}, {"A2", []int{-1, 3}, 0},
	} {
		if got := impl.DimensionBy(cartanNamed(t, e.name), e.w); got != e.want {
			t.Error(e.name, e.w, got)
		}
	}
}

func TestDimensions(t *testing.T) {
	for i, k := range append(knownTypes(), reorderedTypes()...) {
		for j, w := range allVectors(4, k.c.Rank) {
			if k.c.Rank == 4 && (i+j)%5 > 0 && slices.Min(w) < 3 {
				continue
			}
			if got, want := impl.DimensionBy(k.c, w), dimensionBy(k, w); !want.IsInt64() || want.Cmp(big.NewInt(int64(got))) != 0 {
				t.Error(k.name(), k.c, w, got, want)
			}
		}
	}
}

// noHighest has lists that are no highest weights of this rank, with one flaw each.
func noHighest(rank int) [][]int {
	list := noLattice(rank)
	for i := range rank {
		for _, n := range []int{4, 5, -1, -3, 1000} {
			list = append(list, stepped(slices.Repeat([]int{1}, rank), n-1, unitVector(rank, i)))
		}
	}
	return list
}

func TestListsThatAreNoHighestWeights(t *testing.T) {
	eachCharacterType(810, func(_ *rand.Rand, k knownType) {
		good := unitVector(k.c.Rank, 0)
		for _, w := range noHighest(k.c.Rank) {
			if got := impl.DimensionBy(k.c, w); got != 0 {
				t.Error(k.name(), w, got)
			}
			mustTerms(t, w, impl.WeightsOf(k.c, w), true, nil)
			mustVector(t, k.name(), impl.DualWeight(k.c, w), nil)
			if got := impl.IndicatorOf(k.c, w); got != 0 {
				t.Error(k.name(), w, got)
			}
			got, ok := impl.TensorOf(k.c, good, w)
			mustNoTerms(t, w, got, ok)
			got, ok = impl.TensorOf(k.c, w, good)
			mustNoTerms(t, w, got, ok)
			if validTerms(k.c.Rank, []impl.Term{occurs(1, w...)}) {
				got, ok = impl.Decompose(k.c, []impl.Term{occurs(1, w...)})
				mustNoTerms(t, w, got, ok)
			}
		}
	})
}

type weightExample struct {
	name string
	w    []int
	want []impl.Term
}

func weightExamples() []weightExample {
	return []weightExample{
		{"A1", []int{0}, []impl.Term{occurs(1, 0)}},
		{"A1", []int{3}, []impl.Term{occurs(1, 3), occurs(1, 1), occurs(1, -1), occurs(1, -3)}},
		{"A2", []int{0, 0}, []impl.Term{occurs(1, 0, 0)}},
		{"A2", []int{0, 1}, []impl.Term{occurs(1, 1, -1), occurs(1, 0, 1), occurs(1, -1, 0)}},
		{"A2", []int{1, 1}, []impl.Term{occurs(1, 2, -1), occurs(1, 1, 1), occurs(1, 1, -2), occurs(2, 0, 0), occurs(1, -1, 2), occurs(1, -1, -1), occurs(1, -2, 1)}},
		{"B2", []int{1, 0}, []impl.Term{occurs(1, 1, 0), occurs(1, 1, -2), occurs(1, 0, 0), occurs(1, -1, 2), occurs(1, -1, 0)}},
		{"B2", []int{0, 1}, []impl.Term{occurs(1, 1, -1), occurs(1, 0, 1), occurs(1, 0, -1), occurs(1, -1, 1)}},
		{"B2", []int{0, 2}, []impl.Term{occurs(1, 2, -2), occurs(1, 1, 0), occurs(1, 1, -2), occurs(1, 0, 2), occurs(2, 0, 0), occurs(1, 0, -2), occurs(1, -1, 2), occurs(1, -1, 0), occurs(1, -2, 2)}},
		{"G2", []int{1, 0}, []impl.Term{occurs(1, 2, -1), occurs(1, 1, 0), occurs(1, 1, -1), occurs(1, 0, 0), occurs(1, -1, 1), occurs(1, -1, 0), occurs(1, -2, 1)}},
		{"A1+A1", []int{2, 1}, []impl.Term{occurs(1, 2, 1), occurs(1, 2, -1), occurs(1, 0, 1), occurs(1, 0, -1), occurs(1, -2, 1), occurs(1, -2, -1)}},
		{"F4", []int{0, 0, 0, 0}, []impl.Term{occurs(1, 0, 0, 0, 0)}},
		{"A1", []int{4}, nil},
		{"A3", []int{3, 3, 3}, nil},
	}
}

func TestExamplesOfHighestWeights(t *testing.T) {
	for _, e := range weightExamples() {
		mustTerms(t, e, impl.WeightsOf(cartanNamed(t, e.name), e.w), true, e.want)
	}
}

// TestCountsOfZero has what books say of the weight of zeros, or of the least dominant one.
func TestCountsOfZero(t *testing.T) {
	for _, e := range []struct {
		name string
		w, v []int
		want int
	}{
		{"A2", []int{3, 3}, []int{0, 0}, 4}, {"A2", []int{2, 2}, []int{0, 0}, 3}, {"A2", []int{2, 1}, []int{1, 0}, 2},
		{"A4", []int{1, 0, 0, 1}, []int{0, 0, 0, 0}, 4}, {"A3", []int{1, 1, 1}, []int{0, 1, 0}, 4},
		{"B2", []int{2, 0}, []int{0, 0}, 2}, {"B2", []int{1, 1}, []int{0, 1}, 2}, {"B3", []int{0, 1, 0}, []int{0, 0, 0}, 3},
		{"C3", []int{0, 1, 0}, []int{0, 0, 0}, 2}, {"D4", []int{0, 1, 0, 0}, []int{0, 0, 0, 0}, 4},
		{"F4", []int{0, 0, 0, 1}, []int{0, 0, 0, 0}, 2}, {"F4", []int{1, 0, 0, 0}, []int{0, 0, 0, 0}, 4}, {"F4", []int{0, 0, 1, 0}, []int{0, 0, 0, 0}, 9}, {"F4", []int{0, 0, 0, 2}, []int{0, 0, 0, 0}, 12},
		{"G2", []int{1, 1}, []int{0, 0}, 4}, {"G2", []int{1, 1}, []int{1, 0}, 4}, {"G2", []int{2, 0}, []int{0, 0}, 3},
	} {
		if got := impl.CountIn(impl.WeightsOf(cartanNamed(t, e.name), e.w), e.v); got != e.want {
			t.Error(e, got)
		}
	}
}

func TestWeights(t *testing.T) {
	for _, k := range knownCharacters() {
		got := impl.WeightsOf(k.c, k.w)
		mustTerms(t, k.w, got, true, k.terms)
		if !impl.CharacterOk(k.c, got) || impl.DimensionOf(k.c, got) != impl.DimensionBy(k.c, k.w) || impl.CountIn(got, k.w) != 1 {
			t.Error(k.name(), k.w, got)
		}
	}
}

// TestLimitOfWeights has all highest weights of all types.
func TestLimitOfWeights(t *testing.T) {
	at, above := 0, 0
	for i, k := range knownTypes() {
		for j, w := range allVectors(4, k.c.Rank) {
			n := impl.DimensionBy(k.c, w)
			if k.c.Rank == 4 && n < 300 && (i+j)%4 > 0 {
				continue
			}
			got := impl.WeightsOf(k.c, w)
			if n > 400 && len(got) > 0 || n <= 400 && sizeBy(got) != n {
				t.Error(k.name(), w, n, got)
			}
			if n == 400 {
				at++
			}
			if n == 405 {
				above++
			}
		}
	}
	if at < 5 || above < 3 {
		t.Error(at, above)
	}
}

// signedOrbit has what all elements make of a weight, with 1 or -1 for words of even or odd length.
func signedOrbit(c impl.Cartan, w []int) map[spot]int {
	signs := map[spot]int{}
	var visit func(w []int, sign int)
	visit = func(w []int, sign int) {
		if signs[spotOf(w)] != 0 {
			return
		}
		signs[spotOf(w)] = sign
		for i := range c.Rank {
			visit(turnedBy(c, i, w), -sign)
		}
	}
	visit(w, 1)
	return signs
}

// TestCharacterFormula says that the character times the signed orbit of ones is the signed orbit of the highest weight and ones.
func TestCharacterFormula(t *testing.T) {
	for i, k := range knownCharacters() {
		if k.c.Rank == 4 && i%25 > 0 {
			continue
		}
		ones := slices.Repeat([]int{1}, k.c.Rank)
		product := map[spot]int{}
		for s, sign := range signedOrbit(k.c, ones) {
			for _, term := range impl.WeightsOf(k.c, k.w) {
				product[spotOf(stepped(s[:k.c.Rank], 1, term.Weight))] += sign * term.Count
			}
		}
		want := signedOrbit(k.c, stepped(k.w, 1, ones))
		mustTerms(t, k.w, termsBy(k.c.Rank, product), true, termsBy(k.c.Rank, want))
	}
}

// TestReflectedWeights says that weights of one orbit occur equally often.
func TestReflectedWeights(t *testing.T) {
	for _, k := range knownCharacters() {
		l := impl.WeightsOf(k.c, k.w)
		n := countsBy(l)
		for _, term := range l {
			for i := range k.c.Rank {
				if n[spotOf(turnedBy(k.c, i, term.Weight))] != term.Count {
					t.Error(k.name(), k.w, term, i)
				}
			}
		}
	}
}

func TestCountsInLists(t *testing.T) {
	l := []impl.Term{occurs(5, 1, 0), occurs(7, 0, 0), occurs(0, 2, 2), occurs(9, 0, 0), occurs(-3, 4), occurs(8), occurs(2, math.MinInt, 1, 2, 3, 4, 5)}
	for _, e := range []struct {
		w    []int
		want int
	}{
		{[]int{1, 0}, 5}, {[]int{0, 0}, 7}, {[]int{2, 2}, 0}, {[]int{4}, -3}, {nil, 8}, {[]int{}, 8}, {[]int{math.MinInt, 1, 2, 3, 4, 5}, 2},
		{[]int{0, 1}, 0}, {[]int{1}, 0}, {[]int{1, 0, 0}, 0}, {[]int{0}, 0}, {[]int{math.MaxInt}, 0},
	} {
		if got := impl.CountIn(l, e.w); got != e.want {
			t.Error(e, got)
		}
		if got := impl.CountIn(nil, e.w); got != 0 {
			t.Error(e, got)
		}
	}
	for _, k := range knownCharacters() {
		for _, w := range [][]int{k.w, make([]int, k.c.Rank), stepped(k.w, 1, unitVector(k.c.Rank, 0)), k.w[1:]} {
			want := 0
			if len(w) == k.c.Rank {
				want = countsBy(k.terms)[spotOf(w)]
			}
			if got := impl.CountIn(k.terms, w); got != want {
				t.Error(k.name(), k.w, w, got)
			}
		}
	}
}

// TestLevelsOfBooks has the levels of the weights with a single 1.
func TestLevelsOfBooks(t *testing.T) {
	for name, levels := range map[string][]int{
		"A1": {1}, "A2": {2, 2}, "A3": {3, 4, 3}, "A4": {4, 6, 6, 4}, "B2": {4, 3}, "B3": {6, 10, 6}, "B4": {8, 14, 18, 10},
		"C3": {5, 8, 9}, "C4": {7, 12, 15, 16}, "D4": {6, 10, 6, 6}, "F4": {22, 42, 30, 16}, "G2": {6, 10}, "A1+A2": {1, 2, 2}, "G2+B2": {6, 10, 4, 3},
	} {
		c := cartanNamed(t, name)
		for i, level := range levels {
			for _, n := range []int{1, -1, 0, 1000, -1000} {
				if got := impl.LevelOf(c, stepped(make([]int, c.Rank), n, unitVector(c.Rank, i))); got != n*level {
					t.Error(name, i, n, got)
				}
			}
		}
	}
}

func TestLevels(t *testing.T) {
	r := newRandom(811)
	for _, k := range reorderedTypes() {
		for _, w := range someWeights(r, k.c.Rank) {
			want := 0
			if isWeight(w) {
				want = levelBy(k, w)
			}
			if got := impl.LevelOf(k.c, w); got != want {
				t.Error(k.name(), w, got, want)
			}
		}
		for _, w := range noLattice(k.c.Rank) {
			if got := impl.LevelOf(k.c, w); got != 0 {
				t.Error(k.name(), w, got)
			}
		}
		for i := range k.c.Rank {
			if got := impl.LevelOf(k.c, impl.WeightOf(k.c, unitVector(k.c.Rank, i))); got != 2 {
				t.Error(k.name(), i, got)
			}
		}
	}
}

func TestExamplesOfDecompositions(t *testing.T) {
	for _, e := range []struct {
		name    string
		l, want []impl.Term
	}{
		{"A1", nil, nil},
		{"A1", []impl.Term{occurs(5, 0)}, []impl.Term{occurs(5, 0)}},
		{"A1", []impl.Term{occurs(1000000, 0)}, []impl.Term{occurs(1000000, 0)}},
		{"A1", []impl.Term{occurs(1, 2), occurs(2, 0), occurs(1, -2)}, []impl.Term{occurs(1, 2), occurs(1, 0)}},
		{"A1", []impl.Term{occurs(2, 3), occurs(5, 1), occurs(5, -1), occurs(2, -3)}, []impl.Term{occurs(2, 3), occurs(3, 1)}},
		{"A1", []impl.Term{occurs(1, 1), occurs(4, 0), occurs(1, -1)}, []impl.Term{occurs(1, 1), occurs(4, 0)}},
		// Both have the same level.
		{"A2", []impl.Term{occurs(1, 1, 0), occurs(2, 1, -1), occurs(2, 0, 1), occurs(1, 0, -1), occurs(1, -1, 1), occurs(2, -1, 0)}, []impl.Term{occurs(1, 1, 0), occurs(2, 0, 1)}},
		// The greatest weight of the list is not dominant, and the weights are not taken in the order of the result.
		{"A2", []impl.Term{occurs(1, 2, -1), occurs(1, 1, 1), occurs(3, 1, 0), occurs(1, 1, -2), occurs(2, 0, 0), occurs(3, 0, -1), occurs(1, -1, 2), occurs(3, -1, 1), occurs(1, -1, -1), occurs(1, -2, 1)},
			[]impl.Term{occurs(1, 1, 1), occurs(3, 1, 0)}},
		{"A1+A1", []impl.Term{occurs(1, 3, 0), occurs(1, 1, 0), occurs(1, 0, 3), occurs(1, 0, 1), occurs(1, 0, -1), occurs(1, 0, -3), occurs(1, -1, 0), occurs(1, -3, 0)}, []impl.Term{occurs(1, 3, 0), occurs(1, 0, 3)}},
		{"B2", []impl.Term{occurs(1, 1, 0), occurs(1, 1, -1), occurs(1, 1, -2), occurs(1, 0, 1), occurs(2, 0, 0), occurs(1, 0, -1), occurs(1, -1, 2), occurs(1, -1, 1), occurs(1, -1, 0)},
			[]impl.Term{occurs(1, 1, 0), occurs(1, 0, 1), occurs(1, 0, 0)}},
	} {
		got, ok := impl.Decompose(cartanNamed(t, e.name), e.l)
		mustTerms(t, e, got, ok, e.want)
	}
}

func TestListsThatCannotBeDivided(t *testing.T) {
	for _, e := range []struct {
		name string
		l    []impl.Term
	}{
		{"A1", []impl.Term{occurs(1, 1)}},
		{"A1", []impl.Term{occurs(1, -1)}},
		{"A1", []impl.Term{occurs(1, 0), occurs(1, -1)}},
		{"A1", []impl.Term{occurs(2, 1), occurs(1, -1)}},
		{"A1", []impl.Term{occurs(1, 1), occurs(2, -1)}},
		{"A1", []impl.Term{occurs(1, 2), occurs(1, -2)}},
		{"A1", []impl.Term{occurs(2, 2), occurs(1, 0), occurs(2, -2)}},
		{"A1", []impl.Term{occurs(1, 1), occurs(1, 0)}},
		// These would be characters of a weight with a number above 3.
		{"A1", []impl.Term{occurs(1, 4), occurs(1, 2), occurs(1, 0), occurs(1, -2), occurs(1, -4)}},
		{"A1+A1", []impl.Term{occurs(1, 0, 4), occurs(1, 0, 2), occurs(1, 0, 0), occurs(1, 0, -2), occurs(1, 0, -4)}},
		{"A2", []impl.Term{occurs(1, 1, 0), occurs(1, -1, 1)}},
		{"A2", []impl.Term{occurs(1, 1, 0), occurs(1, 0, 1), occurs(1, 0, -1), occurs(1, -1, 1)}},
		{"A2", []impl.Term{occurs(1, 2, -1), occurs(1, 1, 1), occurs(1, 1, -2), occurs(1, 0, 0), occurs(1, -1, 2), occurs(1, -1, -1), occurs(1, -2, 1)}},
		{"A2", []impl.Term{occurs(1, 2, -1), occurs(1, 1, -2), occurs(1, -1, 2), occurs(1, -2, 1)}},
		// Lists that are no characters.
		{"A1", []impl.Term{occurs(1, -1), occurs(1, 1)}},
		{"A1", []impl.Term{occurs(1, 1), occurs(0, 0), occurs(1, -1)}},
		{"A1", []impl.Term{occurs(1000001, 0)}},
		{"A1", []impl.Term{occurs(1, 0), occurs(1, 0)}},
		{"A2", []impl.Term{occurs(1, 0)}},
	} {
		got, ok := impl.Decompose(cartanNamed(t, e.name), e.l)
		mustNoTerms(t, e, got, ok)
	}
}

// TestCharactersThatAreTooLarge has weights of dimensions above the limit, whose characters have few enough terms.
func TestCharactersThatAreTooLarge(t *testing.T) {
	found := 0
	for _, k := range knownTypes() {
		for _, w := range allVectors(4, k.c.Rank) {
			n := impl.DimensionBy(k.c, w)
			if n <= 400 || n > 1100 || k.c.Rank > 3 {
				continue
			}
			l, ok := weightsBy(k, w)
			if !ok || !validTerms(k.c.Rank, l) {
				continue
			}
			found++
			got, ok := impl.Decompose(k.c, l)
			mustNoTerms(t, w, got, ok)
		}
	}
	if found < 10 {
		t.Error(found)
	}
}

// someHighest returns the known characters of the rank 1 and 2, and a part of the others, type by type.
func someHighest() [][]knownCharacter {
	var list [][]knownCharacter
	for i, k := range knownCharacters() {
		if i == 0 || !slices.Equal(k.c.Data, knownCharacters()[i-1].c.Data) {
			list = append(list, nil)
		}
		if last := len(list) - 1; k.c.Rank < 3 || len(list[last]) < 8 || i%5 == 0 {
			list[last] = append(list[last], k)
		}
	}
	return list
}

// TestDecompositions divides sums of characters, and what is left of them if one weight occurs less or more often.
func TestDecompositions(t *testing.T) {
	r := newRandom(812)
	divided := 0
	for _, known := range someHighest() {
		for range 12 {
			parts, sum := map[spot]int{}, map[spot]int{}
			k := known[0].knownType
			for range 1 + r.IntN(4) {
				part, count := known[r.IntN(len(known))], 1+r.IntN(5)
				parts[spotOf(part.w)] += count
				for _, term := range part.terms {
					sum[spotOf(term.Weight)] += count * term.Count
				}
			}
			l := termsBy(k.c.Rank, sum)
			if !validTerms(k.c.Rank, l) {
				continue
			}
			got, ok := impl.Decompose(k.c, l)
			mustTerms(t, k.name(), got, ok, termsBy(k.c.Rank, parts))
			for _, change := range []int{-1, 1} {
				other := copyTerms(l)
				other[r.IntN(len(l))].Count += change
				checkDecomposition(t, k, termsBy(k.c.Rank, countsBy(other)))
			}
			divided++
		}
	}
	if divided < 400 {
		t.Error(divided)
	}
}

func checkDecomposition(t *testing.T, k knownType, l []impl.Term) {
	t.Helper()
	want, can := decomposedBy(k, l)
	got, ok := impl.Decompose(k.c, l)
	if !can {
		mustNoTerms(t, l, got, ok)
		return
	}
	mustTerms(t, l, got, ok, want)
}

// TestDecompositionsOfAnyLists has lists most of which cannot be divided, and lists that orbits make.
func TestDecompositionsOfAnyLists(t *testing.T) {
	divided := 0
	eachCharacterType(813, func(r *rand.Rand, k knownType) {
		for i := range 20 {
			l := map[spot]int{}
			for range 1 + i%3 {
				w, count := randomVector(r, 3, k.c.Rank), 1+r.IntN(3)
				for _, v := range orbitBy(k.c, w) {
					l[spotOf(v)] += count
				}
			}
			l[spot{}] += r.IntN(9)
			checkDecomposition(t, k, randomTerms(r, k.c.Rank, i%4, 1, 3))
			if terms := termsBy(k.c.Rank, l); validTerms(k.c.Rank, terms) {
				checkDecomposition(t, k, terms)
				if _, ok := impl.Decompose(k.c, terms); ok {
					divided++
				}
			}
		}
	})
	if divided < 100 {
		t.Error(divided)
	}
}
