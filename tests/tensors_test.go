package tests

import (
	"math"
	"math/big"
	"math/rand/v2"
	"slices"
	"testing"

	"loop.example/g03109/impl"
)

type tensorExample struct {
	name string
	v, w []int
	want []impl.Term
}

func tensorExamples() []tensorExample {
	return []tensorExample{
		{"A1", []int{0}, []int{0}, []impl.Term{occurs(1, 0)}},
		{"A1", []int{0}, []int{3}, []impl.Term{occurs(1, 3)}},
		{"A1", []int{3}, []int{0}, []impl.Term{occurs(1, 3)}},
		{"A1", []int{1}, []int{1}, []impl.Term{occurs(1, 2), occurs(1, 0)}},
		{"A1", []int{3}, []int{1}, []impl.Term{occurs(1, 4), occurs(1, 2)}},
		// The result has numbers above 3.
		{"A1", []int{3}, []int{3}, []impl.Term{occurs(1, 6), occurs(1, 4), occurs(1, 2), occurs(1, 0)}},
		{"A2", []int{1, 0}, []int{0, 1}, []impl.Term{occurs(1, 1, 1), occurs(1, 0, 0)}},
		{"A2", []int{1, 1}, []int{0, 0}, []impl.Term{occurs(1, 1, 1)}},
		{"A2", []int{1, 1}, []int{1, 1}, []impl.Term{occurs(1, 3, 0), occurs(1, 2, 2), occurs(2, 1, 1), occurs(1, 0, 3), occurs(1, 0, 0)}},
		{"B2", []int{0, 1}, []int{0, 1}, []impl.Term{occurs(1, 1, 0), occurs(1, 0, 2), occurs(1, 0, 0)}},
		{"G2", []int{1, 0}, []int{1, 0}, []impl.Term{occurs(1, 2, 0), occurs(1, 1, 0), occurs(1, 0, 1), occurs(1, 0, 0)}},
		{"D4", []int{1, 0, 0, 0}, []int{0, 0, 1, 0}, []impl.Term{occurs(1, 1, 0, 1, 0), occurs(1, 0, 0, 0, 1)}},
		{"F4", []int{0, 0, 0, 1}, []int{0, 0, 0, 1}, []impl.Term{occurs(1, 1, 0, 0, 0), occurs(1, 0, 0, 1, 0), occurs(1, 0, 0, 0, 2), occurs(1, 0, 0, 0, 1), occurs(1, 0, 0, 0, 0)}},
		{"A1+A2", []int{1, 1, 0}, []int{1, 0, 1}, []impl.Term{occurs(1, 2, 1, 1), occurs(1, 2, 0, 0), occurs(1, 0, 1, 1), occurs(1, 0, 0, 0)}},
		// The dimension of the second one is above the limit.
		{"F4", []int{0, 0, 0, 0}, []int{3, 3, 3, 3}, []impl.Term{occurs(1, 3, 3, 3, 3)}},
	}
}

func TestExamplesOfTensors(t *testing.T) {
	for _, e := range tensorExamples() {
		got, ok := impl.TensorOf(cartanNamed(t, e.name), e.v, e.w)
		mustTerms(t, e, got, ok, e.want)
	}
	for _, v := range [][]int{{3, 3, 3, 3}, {0, 1, 0, 0}, {4, 0, 0, 0}} {
		got, ok := impl.TensorOf(cartanNamed(t, "F4"), v, make([]int, 4))
		mustNoTerms(t, v, got, ok)
	}
}

// TestCancelledTerms says that there are terms that are counted and then subtracted.
func TestCancelledTerms(t *testing.T) {
	c := cartanNamed(t, "A2")
	weights := impl.WeightsOf(c, []int{1, 1})
	added, subtracted, nothing := 0, 0, 0
	for _, term := range weights {
		u, sign := foldedBy(c, term.Weight, []int{0, 0})
		switch {
		case sign == 0:
			nothing++
		case zeroVector(u) && sign > 0:
			added += term.Count
		case zeroVector(u):
			subtracted += term.Count
		}
	}
	if added != 2 || subtracted != 2 || nothing != 3 {
		t.Error(added, subtracted, nothing)
	}
	got, ok := impl.TensorOf(c, []int{1, 1}, []int{0, 0})
	mustTerms(t, "A2", got, ok, []impl.Term{occurs(1, 1, 1)})
}

// TestTensors takes all pairs of small types, and some of the others.
func TestTensors(t *testing.T) {
	r := newRandom(820)
	for _, k := range knownCharacters() {
		all := allVectors(4, k.c.Rank)
		if k.c.Rank > 2 {
			all = [][]int{all[r.IntN(len(all))], all[r.IntN(len(all))]}
		}
		for _, w := range all {
			want := tensorBy(k.c, k.terms, w)
			got, ok := impl.TensorOf(k.c, k.w, w)
			mustTerms(t, k.name(), got, ok, want)
			checkTensorSize(t, k, w, got)
		}
	}
}

func checkTensorSize(t *testing.T, k knownCharacter, w []int, got []impl.Term) {
	t.Helper()
	size := big.NewInt(0)
	for _, term := range got {
		if slices.Min(term.Weight) < 0 {
			t.Error(k.name(), k.w, w, got)
		}
		n := dimensionBy(k.knownType, term.Weight)
		size.Add(size, n.Mul(n, big.NewInt(int64(term.Count))))
	}
	want := dimensionBy(k.knownType, w)
	if size.Cmp(want.Mul(want, big.NewInt(int64(sizeBy(k.terms))))) != 0 {
		t.Error(k.name(), k.w, w, got)
	}
}

// TestTensorsAreProducts finds them again by Decompose, where that can be, and in the other order, for all pairs of small types.
func TestTensorsAreProducts(t *testing.T) {
	again, beyond := 0, 0
	for _, known := range someHighest() {
		for i, a := range known {
			for j, b := range known[i:] {
				if a.c.Rank > 2 && (j%4 > 0 || len(a.terms)*len(b.terms) > 1500) {
					continue
				}
				tensor, ok := impl.TensorOf(a.c, a.w, b.w)
				other, fine := impl.TensorOf(a.c, b.w, a.w)
				if !ok || !fine || !sameTerms(tensor, other) {
					t.Error(a.name(), a.w, b.w, tensor, other)
				}
				product, ok := impl.MulCharacters(a.c, a.terms, b.terms)
				parts, can := impl.Decompose(a.c, product)
				if !ok {
					continue
				}
				isWithin := !slices.ContainsFunc(tensor, func(u impl.Term) bool { n := impl.DimensionBy(a.c, u.Weight); return n == 0 || n > 400 })
				if can != isWithin || can && !sameTerms(parts, tensor) {
					t.Error(a.name(), a.w, b.w, tensor, parts)
				}
				if can {
					again++
				} else {
					beyond++
				}
			}
		}
	}
	if again < 1000 || beyond < 300 {
		t.Error(again, beyond)
	}
}

func TestExamplesOfDualWeights(t *testing.T) {
	for _, e := range []struct {
		name    string
		w, want []int
	}{
		{"A1", []int{3}, []int{3}},
		{"A1", []int{0}, []int{0}},
		{"A2", []int{1, 0}, []int{0, 1}},
		{"A2", []int{3, 2}, []int{2, 3}},
		{"A3", []int{1, 2, 3}, []int{3, 2, 1}},
		{"A4", []int{0, 1, 2, 3}, []int{3, 2, 1, 0}},
		{"B2", []int{1, 2}, []int{1, 2}},
		{"B3", []int{1, 2, 3}, []int{1, 2, 3}},
		{"C4", []int{0, 1, 2, 3}, []int{0, 1, 2, 3}},
		{"D4", []int{0, 1, 2, 3}, []int{0, 1, 2, 3}},
		{"F4", []int{3, 0, 1, 2}, []int{3, 0, 1, 2}},
		{"G2", []int{3, 1}, []int{3, 1}},
		{"A1+A2", []int{3, 1, 2}, []int{3, 2, 1}},
		{"A2+A2", []int{0, 1, 2, 3}, []int{1, 0, 3, 2}},
		{"A3+A1", []int{1, 2, 3, 0}, []int{3, 2, 1, 0}},
	} {
		mustVector(t, e.name, impl.DualWeight(cartanNamed(t, e.name), e.w), e.want)
	}
}

func TestDualWeights(t *testing.T) {
	for _, k := range characterTypes() {
		longest := impl.LongestWord(k.c)
		for _, w := range allVectors(4, k.c.Rank) {
			want := actedBy(k.c, longest, stepped(w, -2, w), turnedBy)
			mustVector(t, k.name(), impl.DualWeight(k.c, w), want)
		}
	}
	for _, k := range knownCharacters() {
		mustTerms(t, k.name(), impl.WeightsOf(k.c, impl.DualWeight(k.c, k.w)), true, impl.DualCharacter(k.c, k.terms))
	}
}

func TestExamplesOfIndicators(t *testing.T) {
	for _, e := range []struct {
		name string
		w    []int
		want int
	}{
		{"A1", []int{0}, 1}, {"A1", []int{1}, -1}, {"A1", []int{2}, 1}, {"A1", []int{3}, -1}, {"A1", []int{4}, 0},
		{"A2", []int{0, 0}, 1}, {"A2", []int{1, 0}, 0}, {"A2", []int{0, 1}, 0}, {"A2", []int{1, 1}, 1}, {"A2", []int{3, 0}, 0},
		{"A3", []int{0, 1, 0}, 1}, {"A3", []int{1, 0, 0}, 0}, {"A3", []int{1, 0, 1}, 1}, {"A4", []int{1, 0, 0, 1}, 1}, {"A4", []int{0, 1, 0, 0}, 0},
		{"B2", []int{1, 0}, 1}, {"B2", []int{0, 1}, -1}, {"B2", []int{1, 1}, -1}, {"B3", []int{0, 0, 1}, 1}, {"B4", []int{0, 0, 0, 1}, 1},
		{"C3", []int{1, 0, 0}, -1}, {"C3", []int{0, 1, 0}, 1}, {"C3", []int{0, 0, 1}, -1}, {"C4", []int{1, 0, 0, 0}, -1},
		{"D4", []int{0, 0, 0, 1}, 1}, {"F4", []int{0, 0, 0, 1}, 1}, {"G2", []int{1, 0}, 1}, {"G2", []int{0, 1}, 1},
		{"A1+A1", []int{1, 1}, 1}, {"A1+A1", []int{1, 0}, -1}, {"A1+A2", []int{1, 1, 1}, -1}, {"A1+A2", []int{1, 1, 0}, 0},
		// The square has too many terms, or the character itself would.
		{"A1+A1+A1+A1", []int{3, 3, 3, 3}, 0}, {"A3", []int{2, 1, 2}, 0}, {"A4", []int{2, 0, 0, 2}, 0}, {"A3", []int{3, 3, 3}, 0},
	} {
		if got := impl.IndicatorOf(cartanNamed(t, e.name), e.w); got != e.want {
			t.Error(e, got)
		}
	}
}

// TestIndicators says that weights that are their own dual have 1 or -1 for even and odd levels, and others 0, as far as
// the square is a character.
func TestIndicators(t *testing.T) {
	found := map[int]int{}
	for i, k := range knownCharacters() {
		if k.c.Rank > 2 && i%3 > 0 {
			continue
		}
		want := 0
		isDual := slices.Equal(impl.DualWeight(k.c, k.w), k.w)
		if isDual && validTerms(k.c.Rank, productBy(k.c.Rank, k.terms, k.terms)) {
			want = power(levelBy(k.knownType, k.w))
		}
		if got := impl.IndicatorOf(k.c, k.w); got != want {
			t.Error(k.name(), k.w, got, want)
		}
		if isDual || want != 0 {
			found[want]++
		}
	}
	if found[1] < 100 || found[-1] < 100 || found[0] < 20 {
		t.Error(found)
	}
}

// TestSquaresOfWeights says how often each part of a square has the trivial character.
func TestSquaresOfWeights(t *testing.T) {
	for _, known := range someHighest() {
		for _, k := range known {
			if len(k.terms) > 30 {
				continue
			}
			checkSquare(t, k.c, k.terms)
			first, second, ok := impl.SquareParts(k.c, k.terms)
			one, _ := impl.Decompose(k.c, first)
			two, _ := impl.Decompose(k.c, second)
			both, can := impl.AddCharacters(k.c, one, two)
			square, _ := impl.TensorOf(k.c, k.w, k.w)
			if len(one) == 0 || len(two) == 0 && len(second) > 0 {
				continue
			}
			zeros := make([]int, k.c.Rank)
			if !ok || !can || !sameTerms(both, square) || impl.CountIn(one, zeros)-impl.CountIn(two, zeros) != impl.IndicatorOf(k.c, k.w) {
				t.Error(k.name(), k.w, one, two, square)
			}
		}
	}
}

func TestExamplesOfPartsOfMatrices(t *testing.T) {
	for _, e := range []struct {
		name string
		rows []int
		want string
		data []int
	}{
		{"A1", []int{0}, "A1", []int{2}},
		{"A2", []int{0, 1}, "A2", []int{2, -1, -1, 2}},
		{"A2", []int{1}, "A1", []int{2}},
		{"G2", []int{0, 1}, "G2", []int{2, -3, -1, 2}},
		{"B3", []int{0, 2}, "A1+A1", []int{2, 0, 0, 2}},
		{"B3", []int{1, 2}, "B2", []int{2, -1, -2, 2}},
		{"C3", []int{1, 2}, "B2", []int{2, -2, -1, 2}},
		{"A4", []int{0, 1, 3}, "A1+A2", []int{2, -1, 0, -1, 2, 0, 0, 0, 2}},
		{"D4", []int{0, 2, 3}, "A1+A1+A1", []int{2, 0, 0, 0, 2, 0, 0, 0, 2}},
		{"D4", []int{1, 2, 3}, "A3", []int{2, -1, -1, -1, 2, 0, -1, 0, 2}},
		{"F4", []int{0, 1, 2}, "B3", []int{2, -1, 0, -1, 2, -1, 0, -2, 2}},
		{"F4", []int{1, 2, 3}, "C3", []int{2, -1, 0, -2, 2, -1, 0, -1, 2}},
		{"F4", []int{0, 1, 2, 3}, "F4", []int{2, -1, 0, 0, -1, 2, -1, 0, 0, -2, 2, -1, 0, 0, -1, 2}},
		{"G2+B2", []int{1, 2, 3}, "A1+B2", []int{2, 0, 0, 0, 2, -1, 0, -2, 2}},
	} {
		got, ok := impl.SubCartan(cartanNamed(t, e.name), e.rows)
		if !ok || got.Rank != len(e.rows) || !slices.Equal(got.Data, e.data) || impl.TypeOf(got) != e.want {
			t.Error(e, got, ok)
		}
	}
}

// chosenRows may have a part in which no length is 1; lengths are used only in quotients here.
func chosenRows(k knownType, rows []int) knownType {
	chosen := k.reordered(rows)
	chosen.c.Rank = len(rows)
	return chosen
}

// rowChoices has all lists of rows that can be chosen.
func rowChoices(rank int) [][]int {
	var list [][]int
	for n := 1; n <= rank; n++ {
		list = append(list, subsetsBy(rank, n)...)
	}
	return list
}

// noRows has lists of rows that cannot be chosen.
func noRows(rank int) [][]int {
	list := [][]int{nil, {}, {rank}, {-1}, {0, 0}, {0, rank}, {-1, 0}, {rank - 1, rank - 1}, {math.MinInt}, {math.MaxInt}, {1 << 32}, make([]int, rank+1), append(upTo(rank), rank), append(upTo(rank), 0), append([]int{-1}, upTo(rank)...)}
	for i := range rank {
		for j := range i {
			list = append(list, []int{i, j}, []int{j, i, i}, []int{j, i, j}, []int{i, i})
		}
	}
	return list
}

func TestPartsOfMatrices(t *testing.T) {
	for _, k := range reorderedTypes() {
		for _, rows := range rowChoices(k.c.Rank) {
			want := chosenRows(k, rows).c
			got, ok := impl.SubCartan(k.c, rows)
			if !ok || got.Rank != want.Rank || !slices.Equal(got.Data, want.Data) || !impl.IsCartan(got) {
				t.Error(k.c, rows, got, ok)
			}
		}
		for _, rows := range noRows(k.c.Rank) {
			if got, ok := impl.SubCartan(k.c, rows); ok || got.Rank != 0 || got.Data != nil {
				t.Error(k.c, rows, got, ok)
			}
			got, ok := impl.BranchTo(k.c, rows, []impl.Term{occurs(1, make([]int, k.c.Rank)...)})
			mustNoTerms(t, rows, got, ok)
			got, ok = impl.BranchTo(k.c, rows, nil)
			mustNoTerms(t, rows, got, ok)
		}
	}
}

func TestExamplesOfBranches(t *testing.T) {
	for _, e := range []struct {
		name string
		rows []int
		w    []int
		want []impl.Term
	}{
		{"A1", []int{0}, []int{2}, []impl.Term{occurs(1, 2)}},
		{"A2", []int{0}, []int{1, 0}, []impl.Term{occurs(1, 1), occurs(1, 0)}},
		{"A2", []int{0}, []int{1, 1}, []impl.Term{occurs(1, 2), occurs(2, 1), occurs(1, 0)}},
		{"B2", []int{0}, []int{1, 0}, []impl.Term{occurs(2, 1), occurs(1, 0)}},
		{"B2", []int{1}, []int{1, 0}, []impl.Term{occurs(1, 2), occurs(2, 0)}},
		{"G2", []int{0}, []int{1, 0}, []impl.Term{occurs(1, 2), occurs(2, 1)}},
		{"G2", []int{1}, []int{1, 0}, []impl.Term{occurs(2, 1), occurs(3, 0)}},
		{"A3", []int{0, 1}, []int{0, 1, 0}, []impl.Term{occurs(1, 1, 0), occurs(1, 0, 1)}},
		{"A3", []int{0, 2}, []int{0, 1, 0}, []impl.Term{occurs(1, 1, 1), occurs(2, 0, 0)}},
		{"D4", []int{0, 1, 2}, []int{1, 0, 0, 0}, []impl.Term{occurs(1, 1, 0, 0), occurs(1, 0, 0, 1)}},
		{"F4", []int{0, 1, 2}, []int{0, 0, 0, 1}, []impl.Term{occurs(1, 1, 0, 0), occurs(2, 0, 0, 1), occurs(3, 0, 0, 0)}},
	} {
		c := cartanNamed(t, e.name)
		l, ok := impl.BranchTo(c, e.rows, impl.WeightsOf(c, e.w))
		sub, _ := impl.SubCartan(c, e.rows)
		got, can := impl.Decompose(sub, l)
		mustTerms(t, e, got, ok && can, e.want)
	}
}

func TestBranches(t *testing.T) {
	eachCharacterType(821, func(r *rand.Rand, k knownType) {
		for _, rows := range rowChoices(k.c.Rank) {
			l := randomTerms(r, k.c.Rank, 40, 2, 9)
			got, ok := impl.BranchTo(k.c, rows, l)
			mustTerms(t, rows, got, ok, branchedBy(rows, l))
			great := randomTerms(r, k.c.Rank, 40, 1, 1000000)
			got, ok = impl.BranchTo(k.c, rows, great)
			mustTermsIf(t, rows, len(rows), got, ok, branchedBy(rows, great))
			got, ok = impl.BranchTo(k.c, rows, nil)
			mustTerms(t, rows, got, ok, nil)
			got, ok = impl.BranchTo(k.c, rows, []impl.Term{l[0], l[0]})
			mustNoTerms(t, rows, got, ok)
		}
	})
}

// TestLargestBranches has counts that are added up to the limit, and to one more.
func TestLargestBranches(t *testing.T) {
	for _, k := range knownTypes() {
		for i := range k.c.Rank - 1 {
			first, second := unitVector(k.c.Rank, i+1), make([]int, k.c.Rank)
			for _, count := range []int{999999, 1000000} {
				got, ok := impl.BranchTo(k.c, upTo(i+1), []impl.Term{occurs(1, first...), occurs(count, second...)})
				if count == 1000000 {
					mustNoTerms(t, k.name(), got, ok)
					continue
				}
				mustTerms(t, k.name(), got, ok, []impl.Term{occurs(1000000, make([]int, i+1)...)})
			}
		}
		long := rowOfTerms(k.c.Rank, 400, 1, 2500)
		got, ok := impl.BranchTo(k.c, []int{0}, long)
		want := long
		if k.c.Rank > 1 {
			want = []impl.Term{occurs(1000000, 0)}
		}
		mustTerms(t, k.name(), got, ok, want)
	}
}

// TestBranchesOfWeights says that what is left of a character is a sum of characters, also on the way over more rows.
func TestBranchesOfWeights(t *testing.T) {
	r := newRandom(822)
	for _, known := range someHighest() {
		for range 4 {
			k := known[r.IntN(len(known))]
			choices := rowChoices(k.c.Rank)
			rows := choices[r.IntN(len(choices))]
			l, ok := impl.BranchTo(k.c, rows, k.terms)
			sub, _ := impl.SubCartan(k.c, rows)
			if !ok || impl.DimensionOf(sub, l) != sizeBy(k.terms) {
				t.Error(k.name(), k.w, rows, l)
			}
			parts, can := decomposedBy(chosenRows(k.knownType, rows), l)
			got, fine := impl.Decompose(sub, l)
			if can != fine || !sameTerms(parts, got) {
				t.Error(k.name(), k.w, rows, parts, got)
			}
			straight, _ := impl.BranchTo(k.c, rows[:1], k.terms)
			over, _ := impl.BranchTo(sub, []int{0}, l)
			mustTerms(t, k.name(), over, true, straight)
		}
	}
}
