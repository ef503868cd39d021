package tests

import (
	"math"
	"slices"
	"testing"

	"loop.example/g03109/impl"
)

// characterInput has an argument of each kind for the functions of characters.
type characterInput struct {
	c    impl.Cartan
	a, b []impl.Term
	v, w []int
	rows []int
}

func (in characterInput) slices() [][]int {
	list := [][]int{in.c.Data, in.v, in.w, in.rows}
	for _, term := range slices.Concat(in.a, in.b) {
		list = append(list, term.Weight)
	}
	return list
}

func (in characterInput) roomy() characterInput {
	in.c.Data, in.v, in.w, in.rows = roomy(in.c.Data), roomy(in.v), roomy(in.w), roomy(in.rows)
	in.a, in.b = roomyTerms(in.a), roomyTerms(in.b)
	return in
}

// memory also has the counts and weights of the lists, with the room behind them.
func (in characterInput) memory() [][]int {
	copies := copyEach(in.slices(), func(v []int) []int { return slices.Clone(whole(v)) })
	for _, term := range slices.Concat(wholeTerms(in.a), wholeTerms(in.b)) {
		copies = append(copies, append([]int{term.Count}, term.Weight...))
	}
	return copies
}

func (in characterInput) overwrite() {
	scribble(in.slices()...)
	results{in.a, in.b}.overwriteParts()
}

// characterCall is a function of characters, with its results where it fails: for a matrix that is no Cartan matrix, and for a
// list that is no character if it takes one or two.
type characterCall struct {
	name    string
	takes   int
	run     func(in characterInput) results
	failure results
}

func characterCalls() []characterCall {
	noTerms, notTerms := results{[]impl.Term(nil)}, results{[]impl.Term(nil), false}
	return []characterCall{
		{"CharacterOk", 1, func(in characterInput) results { return results{impl.CharacterOk(in.c, in.a)} }, results{false}},
		{"DimensionOf", 1, func(in characterInput) results { return results{impl.DimensionOf(in.c, in.a)} }, results{0}},
		{"AddCharacters", 2, func(in characterInput) results { return pair(impl.AddCharacters(in.c, in.a, in.b)) }, notTerms},
		{"MulCharacters", 2, func(in characterInput) results { return pair(impl.MulCharacters(in.c, in.a, in.b)) }, notTerms},
		{"DoubleCharacter", 1, func(in characterInput) results { return pair(impl.DoubleCharacter(in.c, in.a)) }, notTerms},
		{"SquareParts", 1, func(in characterInput) results {
			first, second, ok := impl.SquareParts(in.c, in.a)
			return results{first, second, ok}
		}, results{[]impl.Term(nil), []impl.Term(nil), false}},
		{"DualCharacter", 1, func(in characterInput) results { return results{impl.DualCharacter(in.c, in.a)} }, noTerms},
		{"DimensionBy", 0, func(in characterInput) results { return results{impl.DimensionBy(in.c, in.w)} }, results{0}},
		{"WeightsOf", 0, func(in characterInput) results { return results{impl.WeightsOf(in.c, in.w)} }, noTerms},
		{"LevelOf", 0, func(in characterInput) results { return results{impl.LevelOf(in.c, in.w)} }, results{0}},
		{"Decompose", 1, func(in characterInput) results { return pair(impl.Decompose(in.c, in.a)) }, notTerms},
		{"TensorOf", 0, func(in characterInput) results { return pair(impl.TensorOf(in.c, in.v, in.w)) }, notTerms},
		{"DualWeight", 0, func(in characterInput) results { return results{impl.DualWeight(in.c, in.w)} }, results{[]int(nil)}},
		{"IndicatorOf", 0, func(in characterInput) results { return results{impl.IndicatorOf(in.c, in.w)} }, results{0}},
		{"SubCartan", 0, func(in characterInput) results { return pair(impl.SubCartan(in.c, in.rows)) }, results{impl.Cartan{}, false}},
		{"BranchTo", 1, func(in characterInput) results { return pair(impl.BranchTo(in.c, in.rows, in.a)) }, notTerms},
	}
}

func callOfCount(in characterInput) results { return results{impl.CountIn(in.a, in.w)} }

func TestCharacterFunctionsOfNoCartanMatrix(t *testing.T) {
	weights := [][]int{nil, {0}, {1}, {1, 0}, {0, 0}, {1, 0, 0}, {0, 0, 0, 0}, {0, 0, 0, 0, 1}, {math.MinInt}}
	for _, c := range noCartans() {
		for i, w := range weights {
			for _, a := range [][]impl.Term{nil, {}, {occurs(1, w...)}, {occurs(2, 1, 0), occurs(1, 0, 0)}} {
				for _, rows := range [][]int{nil, {0}, {0, 1}} {
					in := characterInput{c: c, a: a, b: []impl.Term{occurs(1, w...)}, v: weights[(i+1)%len(weights)], w: w, rows: rows}.roomy()
					for _, call := range characterCalls() {
						checkFailing(t, call.name, in, call.failure, func() results { return call.run(in) })
					}
				}
			}
		}
	}
}

// noCharacters has lists with one flaw each.
func noCharacters(rank int) [][]impl.Term {
	zeros, one := make([]int, rank), unitVector(rank, 0)
	list := [][]impl.Term{
		{occurs(1, zeros...), occurs(1, one...)}, {occurs(1, zeros...), occurs(1, zeros...)}, {occurs(1, one...), occurs(1, zeros...), occurs(1, one...)},
		{occurs(0, zeros...)}, {occurs(-1, zeros...)}, {occurs(1000001, zeros...)}, {occurs(math.MaxInt, zeros...)}, {occurs(math.MinInt, zeros...)},
		{occurs(1, one...), occurs(0, zeros...)}, rowOfTerms(rank, 401, 1, 1), slices.Repeat([]impl.Term{occurs(1, zeros...)}, 2),
	}
	for _, w := range noLattice(rank) {
		list = append(list, []impl.Term{occurs(1, w...)})
	}
	return list
}

func TestFunctionsOfNoCharacters(t *testing.T) {
	for i, k := range characterTypes() {
		good := []impl.Term{occurs(1, make([]int, k.c.Rank)...)}
		for _, bad := range noCharacters(k.c.Rank) {
			for _, rows := range [][]int{{0}, upTo(k.c.Rank), nil} {
				for _, call := range characterCalls() {
					if call.takes == 0 || i > 30 && len(bad) > 400 {
						continue
					}
					in := characterInput{c: k.c, a: bad, b: good, rows: rows}.roomy()
					checkFailing(t, call.name, in, call.failure, func() results { return call.run(in) })
					if call.takes == 2 {
						in.a, in.b = in.b, in.a
						checkFailing(t, call.name, in, call.failure, func() results { return call.run(in) })
						in.a = nil
						checkFailing(t, call.name, in, call.failure, func() results { return call.run(in) })
						in.a = in.b
						checkFailing(t, call.name, in, call.failure, func() results { return call.run(in) })
					}
				}
			}
		}
	}
}

// TestCharacterFunctionsOfAnything has all mixtures of ranks and lists, among them the least and the greatest integers.
func TestCharacterFunctionsOfAnything(t *testing.T) {
	lists := [][]int{nil, {0}, {1}, {math.MinInt, math.MaxInt}, {math.MaxInt, 0}, {1, 0, 0, 0}, {0, 0, 0, 0, 0, 0}}
	counts := []int{math.MinInt, -1, 0, 1, 1000000, math.MaxInt}
	for _, rank := range []int{math.MinInt, -1, 0, 1, 2, 4, 5, 1 << 32, math.MaxInt} {
		for _, data := range [][]int{nil, {2}, {2, -1, -2, 2}, {math.MinInt}, make([]int, 16), knownParts()[10].data, make([]int, 25)} {
			c := impl.Cartan{Rank: rank, Data: data}
			isCartan := impl.IsCartan(c)
			for i, v := range lists {
				for j, w := range lists {
					a := []impl.Term{occurs(counts[(i+j)%len(counts)], v...), occurs(counts[j%len(counts)], w...)}
					in := characterInput{c: c, a: a, b: a[:1], v: v, w: w, rows: w}
					for _, call := range characterCalls() {
						got := call.run(in)
						if (!isCartan || call.takes == 1 && !validTerms(rank, a)) && !got.equal(call.failure) {
							t.Errorf("%s of %v: %v", call.name, in, got)
						}
					}
				}
			}
		}
	}
}

// characterInputs has for each type arguments for which functions have results, and others for which some have none.
func characterInputs() []characterInput {
	r := newRandom(880)
	var list []characterInput
	for i, known := range someHighest() {
		if i%2 > 0 {
			continue
		}
		one, other := known[r.IntN(len(known))], known[r.IntN(min(len(known), 5))]
		rank := one.c.Rank
		list = append(list,
			characterInput{c: one.c, a: one.terms, b: other.terms, v: one.w, w: other.w, rows: upTo(1 + r.IntN(rank))},
			characterInput{c: one.c, a: randomTerms(r, rank, 9, 2, 9), b: randomTerms(r, rank, 9, 2, 9), v: other.w, w: make([]int, rank), rows: []int{rank - 1}},
			characterInput{c: one.c, a: randomTerms(r, rank, 9, 1000, 1000000), b: randomTerms(r, rank, 20, 1000, 1000000), v: slices.Repeat([]int{4}, rank), w: other.w, rows: []int{0, 0}},
			characterInput{c: one.c, a: nil, b: other.terms, v: other.w, w: slices.Repeat([]int{5}, rank)},
			characterInput{c: one.c, a: rowOfTerms(rank, 1, 1, 1000000), b: rowOfTerms(rank, 2, 1, 1)})
	}
	return list
}

func TestCharacterArgumentsStayAndMemoryIsNew(t *testing.T) {
	inputs := characterInputs()
	for _, call := range append(characterCalls(), characterCall{"CountIn", 0, callOfCount, nil}) {
		for _, in := range inputs {
			once := in.roomy()
			checkMemory(t, call.name, once, func() results { return call.run(once) })
			twice := in.roomy()
			twice.b, twice.w, twice.rows = twice.a, twice.v, twice.v
			checkMemory(t, call.name, twice, func() results { return call.run(twice) })
		}
	}
}

// TestFailuresOfCharacterFunctions says that all functions that fail give zero values, and each of them fails for something.
func TestFailuresOfCharacterFunctions(t *testing.T) {
	o := noOutcomes()
	for _, call := range characterCalls() {
		for _, in := range characterInputs() {
			o.note(t, call.name, in, call.run(in), call.failure)
		}
	}
	o.mustHaveBoth(t, "AddCharacters", "MulCharacters", "DoubleCharacter", "SquareParts", "Decompose", "TensorOf", "SubCartan", "BranchTo")
}
