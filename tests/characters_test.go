package tests

import (
	"math"
	"math/rand/v2"
	"slices"
	"testing"

	"loop.example/g03109/impl"
)

// eachCharacterType runs f with the types of characterTypes.
func eachCharacterType(seed uint64, f func(r *rand.Rand, k knownType)) {
	r := newRandom(seed)
	for _, k := range characterTypes() {
		f(r, k)
	}
}

func checkCharacter(t *testing.T, c impl.Cartan, l []impl.Term, want bool) {
	t.Helper()
	if impl.CharacterOk(c, l) != want {
		t.Error(c, l, !want)
	}
	size := 0
	if want {
		size = sizeBy(l)
	}
	if got := impl.DimensionOf(c, l); got != size {
		t.Error(c, l, got)
	}
}

func TestExamplesOfLists(t *testing.T) {
	for _, e := range []struct {
		name string
		l    []impl.Term
		want bool
	}{
		{"A1", nil, true},
		{"A1", []impl.Term{}, true},
		{"A1", []impl.Term{occurs(1, 0)}, true},
		{"A1", []impl.Term{occurs(1, 5), occurs(1, 3)}, true},
		{"A1", []impl.Term{occurs(1, 3), occurs(1, 5)}, false},
		{"A1", []impl.Term{occurs(1, 3), occurs(1, 3)}, false},
		{"A1", []impl.Term{occurs(1, 5), occurs(1, 3), occurs(1, 5)}, false},
		{"A1", []impl.Term{occurs(0, 0)}, false},
		{"A1", []impl.Term{occurs(-1, 0)}, false},
		{"A1", []impl.Term{occurs(math.MinInt, 0)}, false},
		{"A1", []impl.Term{occurs(1000000, 0)}, true},
		{"A1", []impl.Term{occurs(1000001, 0)}, false},
		{"A1", []impl.Term{occurs(math.MaxInt, 0)}, false},
		{"A1", []impl.Term{occurs(1, 1), occurs(0, 0)}, false},
		{"A1", []impl.Term{occurs(1, 1), occurs(1000001, 0)}, false},
		{"A1", []impl.Term{occurs(1, 1000), occurs(1, -1000)}, true},
		{"A1", []impl.Term{occurs(1, 1001)}, false},
		{"A1", []impl.Term{occurs(1, -1001)}, false},
		{"A1", []impl.Term{occurs(1, 0), occurs(1, math.MinInt)}, false},
		{"A1", []impl.Term{occurs(1)}, false},
		{"A1", []impl.Term{occurs(1, 0, 0)}, false},
		{"A1", []impl.Term{occurs(1, 1), occurs(1)}, false},
		{"A2", []impl.Term{occurs(1, 1, 0), occurs(2, 0, 1)}, true},
		{"A2", []impl.Term{occurs(2, 0, 1), occurs(1, 1, 0)}, false},
		{"A2", []impl.Term{occurs(1, 0, 1), occurs(1, 0, 0), occurs(1, 0, -1), occurs(1, -1, 7)}, true},
		{"A2", []impl.Term{occurs(1, 0, 0), occurs(1, 0, 1)}, false},
		{"A2", []impl.Term{occurs(1, 1)}, false},
		{"A2", []impl.Term{occurs(1, 1, 0, 0)}, false},
		{"A2", []impl.Term{{Weight: nil, Count: 1}}, false},
		{"A1+A2", []impl.Term{occurs(1, 1, 0, 0), occurs(1, 0, 9, 9)}, true},
		{"D4", []impl.Term{occurs(5, -1, 0, 0, 0), occurs(5, -1, 0, 0, -1)}, true},
		{"D4", []impl.Term{occurs(5, -1, 0, 0, -1), occurs(5, -1, 0, 0, 0)}, false},
	} {
		checkCharacter(t, cartanNamed(t, e.name), e.l, e.want)
	}
}

func TestLargestLists(t *testing.T) {
	for _, k := range knownTypes() {
		for _, n := range []int{399, 400, 401, 402, 800} {
			checkCharacter(t, k.c, rowOfTerms(k.c.Rank, n, 1, 1), n <= 400)
			checkCharacter(t, k.c, rowOfTerms(k.c.Rank, n, -2, 1000000), n <= 400)
		}
	}
}

// TestListsWithOneFlaw changes one place of a character.
func TestListsWithOneFlaw(t *testing.T) {
	eachCharacterType(801, func(r *rand.Rand, k knownType) {
		l := randomTerms(r, k.c.Rank, 2+r.IntN(20), 3, 9)
		checkCharacter(t, k.c, l, true)
		for i := range l {
			flaws := []impl.Term{l[r.IntN(len(l))], occurs(0, l[i].Weight...), occurs(-l[i].Count, l[i].Weight...), occurs(1000001, l[i].Weight...)}
			for _, w := range noLattice(k.c.Rank) {
				flaws = append(flaws, occurs(1, w...))
			}
			flaws = append(flaws, occurs(1, stepped(l[i].Weight, r.IntN(5)-2, unitVector(k.c.Rank, r.IntN(k.c.Rank)))...))
			for _, flaw := range flaws {
				other := slices.Clone(l)
				other[i] = flaw
				checkCharacter(t, k.c, other, validTerms(k.c.Rank, other))
			}
			exchanged := slices.Clone(l)
			exchanged[0], exchanged[i] = l[i], l[0]
			checkCharacter(t, k.c, exchanged, i == 0)
			checkCharacter(t, k.c, slices.Insert(slices.Clone(l), i, l[i]), false)
			checkCharacter(t, k.c, slices.Delete(slices.Clone(l), i, i+1), true)
		}
	})
}

func checkSum(t *testing.T, c impl.Cartan, a []impl.Term, b []impl.Term) {
	t.Helper()
	got, ok := impl.AddCharacters(c, a, b)
	mustTermsIf(t, "sum", c.Rank, got, ok, termsBy(c.Rank, countsBy(a, b)))
}

func TestExamplesOfSums(t *testing.T) {
	for _, e := range []struct {
		name       string
		a, b, want []impl.Term
	}{
		{"A1", nil, nil, nil},
		{"A1", []impl.Term{occurs(2, 1)}, nil, []impl.Term{occurs(2, 1)}},
		{"A1", nil, []impl.Term{occurs(2, 1)}, []impl.Term{occurs(2, 1)}},
		{"A1", []impl.Term{occurs(2, 1)}, []impl.Term{occurs(3, 1)}, []impl.Term{occurs(5, 1)}},
		{"A1", []impl.Term{occurs(2, 1)}, []impl.Term{occurs(3, 4)}, []impl.Term{occurs(3, 4), occurs(2, 1)}},
		{"A2", []impl.Term{occurs(1, 1, 0), occurs(1, 0, -1), occurs(1, -1, 1)}, []impl.Term{occurs(1, 1, -1), occurs(7, 0, -1)},
			[]impl.Term{occurs(1, 1, 0), occurs(1, 1, -1), occurs(8, 0, -1), occurs(1, -1, 1)}},
		{"A1", []impl.Term{occurs(999999, 0)}, []impl.Term{occurs(1, 0)}, []impl.Term{occurs(1000000, 0)}},
	} {
		got, ok := impl.AddCharacters(cartanNamed(t, e.name), e.a, e.b)
		mustTerms(t, e, got, ok, e.want)
	}
}

func TestSums(t *testing.T) {
	eachCharacterType(802, func(r *rand.Rand, k knownType) {
		for range 5 {
			a, b := randomTerms(r, k.c.Rank, r.IntN(30), 2, 9), randomTerms(r, k.c.Rank, r.IntN(30), 2, 9)
			checkSum(t, k.c, a, b)
			checkSum(t, k.c, a, a)
			checkSum(t, k.c, a, nil)
			checkSum(t, k.c, a, randomTerms(r, k.c.Rank, 20, 1000, 1000000))
		}
	})
}

func TestLargestSums(t *testing.T) {
	for _, k := range knownTypes() {
		long := rowOfTerms(k.c.Rank, 399, 1, 1)
		for _, place := range []int{0, 398, 399, 400, -1} {
			w := stepped(make([]int, k.c.Rank), place, unitVector(k.c.Rank, k.c.Rank-1))
			checkSum(t, k.c, long, []impl.Term{occurs(1, w...)})
			checkSum(t, k.c, long, termsBy(k.c.Rank, map[spot]int{spotOf(w): 1, {999}: 1}))
		}
		for _, count := range []int{1, 500000, 500001, 999999, 1000000} {
			checkSum(t, k.c, rowOfTerms(k.c.Rank, 3, 1, 500000), rowOfTerms(k.c.Rank, 2, 1, count))
		}
	}
}

func checkProduct(t *testing.T, c impl.Cartan, a []impl.Term, b []impl.Term) {
	t.Helper()
	got, ok := impl.MulCharacters(c, a, b)
	mustTermsIf(t, "product", c.Rank, got, ok, productBy(c.Rank, a, b))
	if ok && impl.DimensionOf(c, got) != sizeBy(a)*sizeBy(b) {
		t.Error(c, a, b, got)
	}
}

func TestExamplesOfProducts(t *testing.T) {
	for _, e := range []struct {
		name       string
		a, b, want []impl.Term
	}{
		{"A1", nil, nil, nil},
		{"A1", []impl.Term{occurs(2, 1)}, nil, nil},
		{"A1", nil, []impl.Term{occurs(2, 1)}, nil},
		{"A1", []impl.Term{occurs(2, 1)}, []impl.Term{occurs(3, 1)}, []impl.Term{occurs(6, 2)}},
		{"A1", []impl.Term{occurs(1, 1), occurs(1, -1)}, []impl.Term{occurs(1, 1), occurs(1, -1)}, []impl.Term{occurs(1, 2), occurs(2, 0), occurs(1, -2)}},
		{"A1", []impl.Term{occurs(2, 1), occurs(3, -1)}, []impl.Term{occurs(5, 2), occurs(7, 0)}, []impl.Term{occurs(10, 3), occurs(29, 1), occurs(21, -1)}},
		{"A2", []impl.Term{occurs(1, 1, 0), occurs(1, 0, -1), occurs(1, -1, 1)}, []impl.Term{occurs(1, 0, 0)}, []impl.Term{occurs(1, 1, 0), occurs(1, 0, -1), occurs(1, -1, 1)}},
		{"A2", []impl.Term{occurs(1, 1, 0), occurs(1, 0, -1), occurs(1, -1, 1)}, []impl.Term{occurs(1, 1, -1), occurs(1, 0, 1), occurs(1, -1, 0)},
			[]impl.Term{occurs(1, 2, -1), occurs(1, 1, 1), occurs(1, 1, -2), occurs(3, 0, 0), occurs(1, -1, 2), occurs(1, -1, -1), occurs(1, -2, 1)}},
		{"A1", []impl.Term{occurs(1000, 500)}, []impl.Term{occurs(1000, 500)}, []impl.Term{occurs(1000000, 1000)}},
		{"A1", []impl.Term{occurs(1, -1000)}, []impl.Term{occurs(1, 1000)}, []impl.Term{occurs(1, 0)}},
	} {
		got, ok := impl.MulCharacters(cartanNamed(t, e.name), e.a, e.b)
		mustTerms(t, e, got, ok, e.want)
	}
}

func TestProductsThatAreNoCharacters(t *testing.T) {
	for _, k := range knownTypes() {
		zeros, one := make([]int, k.c.Rank), unitVector(k.c.Rank, k.c.Rank-1)
		for _, e := range [][2][]impl.Term{
			// A sum of weights that is none, a count that is too great, by one product or by several, and too many weights.
			{[]impl.Term{occurs(1, stepped(zeros, 500, one)...)}, []impl.Term{occurs(1, stepped(zeros, 501, one)...)}},
			{[]impl.Term{occurs(1, stepped(zeros, -500, one)...)}, []impl.Term{occurs(1, stepped(zeros, -501, one)...)}},
			{[]impl.Term{occurs(1, stepped(zeros, 1000, one)...)}, []impl.Term{occurs(1, stepped(zeros, 1000, one)...), occurs(1, zeros...)}},
			{[]impl.Term{occurs(1000, zeros...)}, []impl.Term{occurs(1001, zeros...)}},
			{rowOfTerms(k.c.Rank, 2, 1, 1000), rowOfTerms(k.c.Rank, 2, 1, 501)},
			{rowOfTerms(k.c.Rank, 400, 1, 1000000), rowOfTerms(k.c.Rank, 400, -1, 1000000)},
			{rowOfTerms(k.c.Rank, 400, 1, 1), rowOfTerms(k.c.Rank, 2, 1, 1)},
			{rowOfTerms(k.c.Rank, 201, 1, 1), rowOfTerms(k.c.Rank, 201, 1, 1)},
			{rowOfTerms(k.c.Rank, 21, 21, 1), rowOfTerms(k.c.Rank, 20, 1, 1)},
		} {
			got, ok := impl.MulCharacters(k.c, e[0], e[1])
			mustNoTerms(t, k.name(), got, ok)
			got, ok = impl.MulCharacters(k.c, e[1], e[0])
			mustNoTerms(t, k.name(), got, ok)
		}
		for _, e := range [][2][]impl.Term{
			{rowOfTerms(k.c.Rank, 2, 1, 1000), rowOfTerms(k.c.Rank, 2, 1, 500)},
			{rowOfTerms(k.c.Rank, 400, 1, 1), []impl.Term{occurs(1, one...)}},
			{rowOfTerms(k.c.Rank, 201, 1, 1), rowOfTerms(k.c.Rank, 200, 1, 1)},
			{rowOfTerms(k.c.Rank, 20, 20, 1), rowOfTerms(k.c.Rank, 20, 1, 1)},
		} {
			got, ok := impl.MulCharacters(k.c, e[0], e[1])
			mustTerms(t, k.name(), got, ok, productBy(k.c.Rank, e[0], e[1]))
		}
	}
}

// TestProducts also says that they are the same in both orders, and those of sums are sums.
func TestProducts(t *testing.T) {
	eachCharacterType(803, func(r *rand.Rand, k knownType) {
		a, b, d := randomTerms(r, k.c.Rank, r.IntN(12), 2, 9), randomTerms(r, k.c.Rank, r.IntN(12), 2, 9), randomTerms(r, k.c.Rank, r.IntN(12), 2, 9)
		checkProduct(t, k.c, a, b)
		checkProduct(t, k.c, a, a)
		checkProduct(t, k.c, a, randomTerms(r, k.c.Rank, 3, 999, 1000000))
		ab, _ := impl.MulCharacters(k.c, a, b)
		ba, _ := impl.MulCharacters(k.c, b, a)
		ad, _ := impl.MulCharacters(k.c, a, d)
		both, _ := impl.AddCharacters(k.c, b, d)
		product, ok := impl.MulCharacters(k.c, a, both)
		sum, fine := impl.AddCharacters(k.c, ab, ad)
		if !sameTerms(ab, ba) || !sameTerms(product, sum) || !ok || !fine {
			t.Error(k.name(), a, b, d)
		}
	})
}

func TestExamplesOfDoubles(t *testing.T) {
	for _, e := range []struct {
		name    string
		a, want []impl.Term
	}{
		{"A1", nil, nil},
		{"A1", []impl.Term{occurs(3, 0)}, []impl.Term{occurs(3, 0)}},
		{"A1", []impl.Term{occurs(3, 5), occurs(1000000, -4)}, []impl.Term{occurs(3, 10), occurs(1000000, -8)}},
		{"A1", []impl.Term{occurs(3, 500), occurs(1, -500)}, []impl.Term{occurs(3, 1000), occurs(1, -1000)}},
		{"A2", []impl.Term{occurs(2, 1, 0), occurs(1, 0, -1)}, []impl.Term{occurs(2, 2, 0), occurs(1, 0, -2)}},
	} {
		got, ok := impl.DoubleCharacter(cartanNamed(t, e.name), e.a)
		mustTerms(t, e, got, ok, e.want)
	}
}

func TestDoubles(t *testing.T) {
	failed := 0
	eachCharacterType(804, func(r *rand.Rand, k knownType) {
		for _, greatest := range []int{3, 500, 501, 520, 1000} {
			a := randomTerms(r, k.c.Rank, r.IntN(12), greatest, 1000000)
			got, ok := impl.DoubleCharacter(k.c, a)
			mustTermsIf(t, k.name(), k.c.Rank, got, ok, scaledBy(k.c.Rank, 2, a))
			if !ok {
				failed++
			}
		}
		for i := range k.c.Rank {
			for _, n := range []int{500, -500, 501, -501} {
				got, ok := impl.DoubleCharacter(k.c, []impl.Term{occurs(1, stepped(make([]int, k.c.Rank), n, unitVector(k.c.Rank, i))...)})
				if ok != (n == 500 || n == -500) || len(got) > 1 {
					t.Error(k.name(), n, got)
				}
			}
		}
		long := rowOfTerms(k.c.Rank, 400, 1, 1)
		got, ok := impl.DoubleCharacter(k.c, long)
		mustTerms(t, k.name(), got, ok, rowOfTerms(k.c.Rank, 400, 2, 1))
	})
	if failed < 50 {
		t.Error(failed)
	}
}

func checkSquare(t *testing.T, c impl.Cartan, a []impl.Term) {
	t.Helper()
	first, second, ok := impl.SquareParts(c, a)
	if !validTerms(c.Rank, productBy(c.Rank, a, a)) || !validTerms(c.Rank, scaledBy(c.Rank, 2, a)) {
		mustNoTerms(t, "first part", first, ok)
		mustNoTerms(t, "second part", second, ok)
		return
	}
	wantFirst, wantSecond := halvesBy(c.Rank, a)
	mustTerms(t, "first part", first, ok, wantFirst)
	mustTerms(t, "second part", second, ok, wantSecond)
	n := sizeBy(a)
	if impl.DimensionOf(c, first) != n*(n+1)/2 || impl.DimensionOf(c, second) != n*(n-1)/2 {
		t.Error(c, a, first, second)
	}
}

func TestExamplesOfSquares(t *testing.T) {
	for _, e := range []struct {
		name             string
		a, first, second []impl.Term
	}{
		{"A1", nil, nil, nil},
		// A half without weights.
		{"A1", []impl.Term{occurs(1, 5)}, []impl.Term{occurs(1, 10)}, nil},
		{"A1", []impl.Term{occurs(1, 1), occurs(1, -1)}, []impl.Term{occurs(1, 2), occurs(1, 0), occurs(1, -2)}, []impl.Term{occurs(1, 0)}},
		{"A1", []impl.Term{occurs(2, 0)}, []impl.Term{occurs(3, 0)}, []impl.Term{occurs(1, 0)}},
		{"A1", []impl.Term{occurs(2, 1), occurs(1, 0)}, []impl.Term{occurs(3, 2), occurs(2, 1), occurs(1, 0)}, []impl.Term{occurs(1, 2), occurs(2, 1)}},
		{"A2", []impl.Term{occurs(1, 1, 0), occurs(1, 0, -1), occurs(1, -1, 1)},
			[]impl.Term{occurs(1, 2, 0), occurs(1, 1, -1), occurs(1, 0, 1), occurs(1, 0, -2), occurs(1, -1, 0), occurs(1, -2, 2)},
			[]impl.Term{occurs(1, 1, -1), occurs(1, 0, 1), occurs(1, -1, 0)}},
		{"A1", []impl.Term{occurs(1000, 500)}, []impl.Term{occurs(500500, 1000)}, []impl.Term{occurs(499500, 1000)}},
	} {
		first, second, ok := impl.SquareParts(cartanNamed(t, e.name), e.a)
		mustTerms(t, e, first, ok, e.first)
		mustTerms(t, e, second, ok, e.second)
	}
}

func TestSquares(t *testing.T) {
	eachCharacterType(805, func(r *rand.Rand, k knownType) {
		zeros, one := make([]int, k.c.Rank), unitVector(k.c.Rank, 0)
		checkSquare(t, k.c, nil)
		for range 4 {
			checkSquare(t, k.c, randomTerms(r, k.c.Rank, r.IntN(12), 2, 9))
			checkSquare(t, k.c, randomTerms(r, k.c.Rank, 3, 510, 1000))
		}
		for _, n := range []int{500, -500, 501, -501} {
			checkSquare(t, k.c, []impl.Term{occurs(1, stepped(zeros, n, one)...)})
		}
		// The halves of the square would be characters in each case.
		for _, count := range []int{999, 1000, 1001, 1400, 1000000} {
			checkSquare(t, k.c, []impl.Term{occurs(count, zeros...)})
		}
	})
}

// TestLargestSquares has weights 0, 1, .. in one place, with 2 n - 1 sums of two of them, and then one more with a gap before
// it, which makes three more sums.
func TestLargestSquares(t *testing.T) {
	for _, k := range knownTypes() {
		for _, n := range []int{199, 200, 201} {
			row := rowOfTerms(k.c.Rank, n, 1, 1)
			checkSquare(t, k.c, row)
			behind := stepped(make([]int, k.c.Rank), n+1, unitVector(k.c.Rank, k.c.Rank-1))
			checkSquare(t, k.c, termsBy(k.c.Rank, countsBy(row, []impl.Term{occurs(1, behind...)})))
			_, _, ok := impl.SquareParts(k.c, row)
			_, _, more := impl.SquareParts(k.c, termsBy(k.c.Rank, countsBy(row, []impl.Term{occurs(1, behind...)})))
			if ok != (n <= 200) || more != (n <= 199) {
				t.Error(k.name(), n, ok, more)
			}
		}
	}
}

func TestDuals(t *testing.T) {
	a1 := cartanNamed(t, "A1")
	mustTerms(t, "A1", impl.DualCharacter(a1, []impl.Term{occurs(2, 1000), occurs(3, 4), occurs(1, -5)}), true, []impl.Term{occurs(1, 5), occurs(3, -4), occurs(2, -1000)})
	mustTerms(t, "A1", impl.DualCharacter(a1, nil), true, nil)
	eachCharacterType(806, func(r *rand.Rand, k knownType) {
		for _, greatest := range []int{2, 1000} {
			a := randomTerms(r, k.c.Rank, r.IntN(30), greatest, 1000000)
			dual := impl.DualCharacter(k.c, a)
			mustTerms(t, k.name(), dual, true, scaledBy(k.c.Rank, -1, a))
			mustTerms(t, k.name(), impl.DualCharacter(k.c, dual), true, a)
		}
		mustTerms(t, k.name(), impl.DualCharacter(k.c, rowOfTerms(k.c.Rank, 400, 1, 1)), true, rowOfTerms(k.c.Rank, 400, -1, 1))
		mustTerms(t, k.name(), impl.DualCharacter(k.c, rowOfTerms(k.c.Rank, 401, 1, 1)), true, nil)
	})
}
