package tests

import (
	"cmp"
	"math/big"
	"math/rand/v2"
	"slices"
	"sync"
	"testing"

	"loop.example/g03109/impl"
)

// spot is a weight as an array, so that it can be a key.
type spot [4]int

func spotOf(w []int) spot {
	var s spot
	copy(s[:], w)
	return s
}

func occurs(count int, weight ...int) impl.Term { return impl.Term{Weight: weight, Count: count} }

// countsBy adds up what the terms of all lists say of each weight.
func countsBy(lists ...[]impl.Term) map[spot]int {
	n := map[spot]int{}
	for _, t := range slices.Concat(lists...) {
		n[spotOf(t.Weight)] += t.Count
	}
	return n
}

// termsBy leaves out the counts that are 0.
func termsBy(rank int, n map[spot]int) []impl.Term {
	var list []impl.Term
	for s, count := range n {
		if count != 0 {
			list = append(list, occurs(count, slices.Clone(s[:rank])...))
		}
	}
	slices.SortFunc(list, func(a, b impl.Term) int { return slices.Compare(b.Weight, a.Weight) })
	return list
}

// validTerms says by the document's words whether l is a character, if the matrix is a Cartan matrix.
func validTerms(rank int, l []impl.Term) bool {
	for i, t := range l {
		if len(t.Weight) != rank || !isWeight(t.Weight) || t.Count < 1 || t.Count > 1000000 {
			return false
		}
		if i > 0 && slices.Compare(t.Weight, l[i-1].Weight) >= 0 {
			return false
		}
	}
	return len(l) <= 400
}

func sameTerms(a []impl.Term, b []impl.Term) bool {
	return slices.EqualFunc(a, b, func(t, u impl.Term) bool { return t.Count == u.Count && slices.Equal(t.Weight, u.Weight) })
}

func mustTerms(t *testing.T, what any, got []impl.Term, ok bool, want []impl.Term) {
	t.Helper()
	if !ok || !sameTerms(got, want) {
		t.Errorf("%v: %v %v, not %v", what, got, ok, want)
	}
}

// mustTermsIf takes the wanted list as a failure if it is no character.
func mustTermsIf(t *testing.T, what any, rank int, got []impl.Term, ok bool, want []impl.Term) {
	t.Helper()
	if !validTerms(rank, want) {
		mustNoTerms(t, what, got, ok)
		return
	}
	mustTerms(t, what, got, ok, want)
}

func mustNoTerms(t *testing.T, what any, got []impl.Term, ok bool) {
	t.Helper()
	if ok || len(got) > 0 {
		t.Errorf("%v: %v %v", what, got, ok)
	}
}

func sizeBy(l []impl.Term) int {
	sum := 0
	for _, t := range l {
		sum += t.Count
	}
	return sum
}

// productBy is MulCharacters by its definition, be the result a character or not.
func productBy(rank int, a []impl.Term, b []impl.Term) []impl.Term {
	n := map[spot]int{}
	for _, t := range a {
		for _, u := range b {
			n[spotOf(stepped(t.Weight, 1, u.Weight))] += t.Count * u.Count
		}
	}
	return termsBy(rank, n)
}

// scaledBy has all weights times n.
func scaledBy(rank int, n int, a []impl.Term) []impl.Term {
	scaled := map[spot]int{}
	for _, t := range a {
		scaled[spotOf(stepped(make([]int, rank), n, t.Weight))] += t.Count
	}
	return termsBy(rank, scaled)
}

// halvesBy counts the pairs of weights of a in one order: with the pairs of a weight and itself, and without them.
func halvesBy(rank int, a []impl.Term) ([]impl.Term, []impl.Term) {
	with, without := map[spot]int{}, map[spot]int{}
	for i, t := range a {
		s := spotOf(stepped(t.Weight, 1, t.Weight))
		with[s] += t.Count * (t.Count + 1) / 2
		without[s] += t.Count * (t.Count - 1) / 2
		for _, u := range a[:i] {
			s := spotOf(stepped(t.Weight, 1, u.Weight))
			with[s] += t.Count * u.Count
			without[s] += t.Count * u.Count
		}
	}
	return termsBy(rank, with), termsBy(rank, without)
}

// randomTerms returns a character with at most n terms.
func randomTerms(r *rand.Rand, rank int, n int, greatest int, count int) []impl.Term {
	chosen := map[spot]int{}
	for range n {
		w := stepped(randomVector(r, 2*greatest+1, rank), -greatest, slices.Repeat([]int{1}, rank))
		chosen[spotOf(w)] = 1 + r.IntN(count)
	}
	return termsBy(rank, chosen)
}

// rowOfTerms has n terms: the weights step times 0, 1, .. n - 1 in the last place, each with this count.
func rowOfTerms(rank int, n int, step int, count int) []impl.Term {
	terms := map[spot]int{}
	for i := range n {
		terms[spotOf(stepped(make([]int, rank), i*step, unitVector(rank, rank-1)))] = count
	}
	return termsBy(rank, terms)
}

func corootBy(k knownType, r []int) []int {
	list := make([]int, k.c.Rank)
	for i, n := range r {
		list[i] = n * k.lengths[i] * 2 / innerBy(k, r, r)
	}
	return list
}

func dotted(x []int, y []int) int {
	sum := 0
	for i := range x {
		sum += x[i] * y[i]
	}
	return sum
}

// dimensionBy multiplies all numbers before it divides, for any dominant weight.
func dimensionBy(k knownType, w []int) *big.Int {
	ones := slices.Repeat([]int{1}, k.c.Rank)
	number, divisor := big.NewInt(1), big.NewInt(1)
	for _, r := range positiveBy(k.c) {
		coroot := corootBy(k, r)
		number.Mul(number, big.NewInt(int64(dotted(coroot, stepped(w, 1, ones)))))
		divisor.Mul(divisor, big.NewInt(int64(dotted(coroot, ones))))
	}
	return number.Div(number, divisor)
}

func levelBy(k knownType, w []int) int {
	sum := 0
	for _, r := range positiveBy(k.c) {
		sum += dotted(corootBy(k, r), w)
	}
	return sum
}

// stepsToLowest has the numbers of simple roots by which the least weight of the character is less than w.
func stepsToLowest(c impl.Cartan, w []int) []int {
	steps := make([]int, c.Rank)
	for v := w; ; {
		i := slices.IndexFunc(v, func(n int) bool { return n > 0 })
		if i < 0 {
			return steps
		}
		steps[i] += v[i]
		v = turnedBy(c, i, v)
	}
}

// weightCounter has the counts m for the sums of simple roots that are subtracted from w.
type weightCounter struct {
	k     knownType
	w     []int
	roots [][]int
	m     map[spot]int
}

// weightsBy follows the document's equation for all sums of simple roots up to the last one and one step beyond. It has
// no limit, and false if a quotient is no integer or a weight beyond the last one occurs.
func weightsBy(k knownType, w []int) ([]impl.Term, bool) {
	x := weightCounter{k, w, positiveBy(k.c), map[spot]int{spotOf(make([]int, k.c.Rank)): 1}}
	last := stepsToLowest(k.c, w)
	n := map[spot]int{spotOf(w): 1}
	for _, steps := range stepsUpTo(last) {
		if zeroVector(steps) {
			continue
		}
		count, ok := x.count(steps)
		isBeyond := slices.ContainsFunc(stepped(last, -1, steps), func(n int) bool { return n < 0 })
		if !ok || count < 0 || isBeyond && count != 0 {
			return nil, false
		}
		x.m[spotOf(steps)] = count
		n[spotOf(x.weight(steps))] += count
	}
	return termsBy(k.c.Rank, n), true
}

// stepsUpTo has all lists from zeros to one more than last at each place, in lexicographic order.
func stepsUpTo(last []int) [][]int {
	list := [][]int{{}}
	for _, n := range last {
		var longer [][]int
		for _, v := range list {
			for x := range n + 2 {
				longer = append(longer, append(slices.Clone(v), x))
			}
		}
		list = longer
	}
	return list
}

func (x weightCounter) weight(steps []int) []int {
	return stepped(x.w, -1, weightBy(x.k.c, steps))
}

func (x weightCounter) count(steps []int) (int, bool) {
	v := x.weight(steps)
	factor, sum := 0, 0
	for i, n := range steps {
		factor += n * x.k.lengths[i] * (x.w[i] + v[i] + 2)
	}
	for _, r := range x.roots {
		for above := stepped(steps, -1, r); slices.Min(above) >= 0; above = stepped(above, -1, r) {
			for i, n := range x.weight(above) {
				sum += 2 * x.m[spotOf(above)] * r[i] * x.k.lengths[i] * n
			}
		}
	}
	if sum == 0 {
		return 0, true
	}
	if factor == 0 || sum%factor != 0 {
		return 0, false
	}
	return sum / factor, true
}

// knownCharacter is that of a highest weight.
type knownCharacter struct {
	knownType
	w     []int
	terms []impl.Term
}

// characterTypes has all types and some with their rows in another order.
func characterTypes() []knownType {
	list := knownTypes()
	for i, k := range reorderedTypes() {
		if k.c.Rank < 4 && i%2 == 0 || i%11 == 0 {
			list = append(list, k)
		}
	}
	return list
}

// knownCharacters has those of all types for all highest weights whose dimension is small, and some others within the limit.
var knownCharacters = sync.OnceValue(func() []knownCharacter {
	var list []knownCharacter
	for i, k := range characterTypes() {
		for j, w := range allVectors(4, k.c.Rank) {
			n := dimensionBy(k, w).Int64()
			if n > 400 || k.c.Rank > 2 && n > 60 && (i+j)%7 > 0 {
				continue
			}
			terms, ok := weightsBy(k, w)
			if !ok {
				panic("no integers, or weights that should not be there")
			}
			list = append(list, knownCharacter{k, w, terms})
		}
	}
	return list
})

// foldedBy is what one term adds to the counts of TensorOf, with w; nothing is added if the sign is 0.
func foldedBy(c impl.Cartan, x []int, w []int) ([]int, int) {
	ones := slices.Repeat([]int{1}, c.Rank)
	u, word := dominantBy(c, stepped(stepped(x, 1, w), 1, ones))
	if slices.Contains(u, 0) {
		return nil, 0
	}
	return stepped(u, -1, ones), 1 - 2*(len(word)%2)
}

// tensorBy follows the document's words for the weights of v, which may be any list.
func tensorBy(c impl.Cartan, weights []impl.Term, w []int) []impl.Term {
	n := map[spot]int{}
	for _, t := range weights {
		if u, sign := foldedBy(c, t.Weight, w); sign != 0 {
			n[spotOf(u)] += sign * t.Count
		}
	}
	return termsBy(c.Rank, n)
}

// branchedBy keeps the numbers for some rows.
func branchedBy(rows []int, l []impl.Term) []impl.Term {
	n := map[spot]int{}
	for _, t := range l {
		var w []int
		for _, i := range rows {
			w = append(w, t.Weight[i])
		}
		n[spotOf(w)] += t.Count
	}
	return termsBy(len(rows), n)
}

// decomposedBy follows the document's words, with the characters that WeightsOf gives.
func decomposedBy(k knownType, l []impl.Term) ([]impl.Term, bool) {
	left, taken := countsBy(l), map[spot]int{}
	levels := make([]int, k.c.Rank)
	for i := range levels {
		levels[i] = levelBy(k, unitVector(k.c.Rank, i))
	}
	for {
		rest := termsBy(k.c.Rank, left)
		if len(rest) == 0 {
			return termsBy(k.c.Rank, taken), true
		}
		top := slices.MaxFunc(rest, func(a, b impl.Term) int {
			return cmp.Compare(dotted(levels, a.Weight), dotted(levels, b.Weight))
		})
		if slices.Min(top.Weight) < 0 || slices.Max(top.Weight) > 3 || dimensionBy(k, top.Weight).Cmp(big.NewInt(400)) > 0 {
			return nil, false
		}
		taken[spotOf(top.Weight)] += top.Count
		for _, t := range impl.WeightsOf(k.c, top.Weight) {
			left[spotOf(t.Weight)] -= top.Count * t.Count
			if left[spotOf(t.Weight)] < 0 {
				return nil, false
			}
		}
	}
}

// copyTerms has memory of its own.
func copyTerms(l []impl.Term) []impl.Term {
	return copyEach(l, func(t impl.Term) impl.Term { return occurs(t.Count, slices.Clone(t.Weight)...) })
}

// roomyTerms has room behind the list, and behind each weight.
func roomyTerms(l []impl.Term) []impl.Term {
	list := copyEach(l, func(t impl.Term) impl.Term { return occurs(t.Count, roomy(t.Weight)...) })
	return append(list, occurs(3, 1, 4), occurs(-1, 5))[:len(list)]
}

func wholeTerms(l []impl.Term) []impl.Term { return l[:cap(l)] }
