package tests

import (
	"math"
	"slices"
	"testing"

	"loop.example/g03109/impl"
)

// weylInput has an argument of each kind for the functions of Weyl groups.
type weylInput struct {
	c       impl.Cartan
	u, v, w []int
	length  int
}

func (in weylInput) slices() [][]int { return [][]int{in.c.Data, in.u, in.v, in.w} }

func (in weylInput) roomy() weylInput {
	in.c.Data, in.u, in.v, in.w = roomy(in.c.Data), roomy(in.u), roomy(in.v), roomy(in.w)
	return in
}

func (in weylInput) memory() [][]int {
	return copyEach(in.slices(), func(v []int) []int { return slices.Clone(whole(v)) })
}

func (in weylInput) overwrite() { scribble(in.slices()...) }

// weylCall is a function of Weyl groups, with its results for a matrix that is no Cartan matrix.
type weylCall struct {
	name    string
	run     func(in weylInput) results
	failure results
}

func weylCalls() []weylCall {
	noList, noLists := results{[]int(nil)}, results{[][]int(nil)}
	return []weylCall{
		{"WordOk", func(in weylInput) results { return results{impl.WordOk(in.c, in.u)} }, results{false}},
		{"ActWeight", func(in weylInput) results { return results{impl.ActWeight(in.c, in.u, in.w)} }, noList},
		{"ActRoot", func(in weylInput) results { return results{impl.ActRoot(in.c, in.u, in.w)} }, noList},
		{"NormalWord", func(in weylInput) results { return results{impl.NormalWord(in.c, in.u)} }, noList},
		{"SameElement", func(in weylInput) results { return results{impl.SameElement(in.c, in.u, in.v)} }, results{false}},
		{"InverseWord", func(in weylInput) results { return results{impl.InverseWord(in.c, in.u)} }, noList},
		{"InversionsOf", func(in weylInput) results { return results{impl.InversionsOf(in.c, in.u)} }, noLists},
		{"LongestWord", func(in weylInput) results { return results{impl.LongestWord(in.c)} }, noList},
		{"ElementsOf", func(in weylInput) results { return results{impl.ElementsOf(in.c, in.length)} }, noLists},
		{"LengthCounts", func(in weylInput) results { return results{impl.LengthCounts(in.c)} }, noList},
		{"WeylOrder", func(in weylInput) results { return results{impl.WeylOrder(in.c)} }, results{0}},
		{"IsBelow", func(in weylInput) results { return results{impl.IsBelow(in.c, in.u, in.v)} }, results{false}},
		{"DominantOf", func(in weylInput) results { return pair(impl.DominantOf(in.c, in.w)) }, results{[]int(nil), []int(nil)}},
		{"OrbitOf", func(in weylInput) results { return results{impl.OrbitOf(in.c, in.w)} }, noLists},
		{"StabilizerOrder", func(in weylInput) results { return results{impl.StabilizerOrder(in.c, in.w)} }, results{0}},
	}
}

func TestWeylFunctionsOfNoCartanMatrix(t *testing.T) {
	lists := [][]int{nil, {}, {0}, {1}, {-1}, {0, 1}, {1, 0}, {0, 0, 0}, {1, 0, 0, 0}, {0, 0, 0, 0, 1}, {math.MinInt}}
	for _, c := range noCartans() {
		for i, u := range lists {
			for _, length := range []int{-1, 0, 1, math.MinInt, math.MaxInt} {
				in := weylInput{c, u, lists[(i+1)%len(lists)], lists[(i+3)%len(lists)], length}.roomy()
				for _, call := range weylCalls() {
					checkFailing(t, call.name, in, call.failure, func() results { return call.run(in) })
				}
			}
		}
	}
}

// TestWeylFunctionsOfAnything has all mixtures of ranks and lists, among them the least and the greatest integers.
func TestWeylFunctionsOfAnything(t *testing.T) {
	lists := [][]int{nil, {0}, {1}, {math.MinInt, math.MaxInt}, {math.MaxInt, 0}, {1, 0, 0, 0}, make([]int, 61)}
	for _, rank := range []int{math.MinInt, -1, 0, 1, 2, 4, 5, 1 << 32, math.MaxInt} {
		for _, data := range [][]int{nil, {2}, {2, -1, -2, 2}, {math.MinInt}, make([]int, 16), knownParts()[10].data, make([]int, 25)} {
			c := impl.Cartan{Rank: rank, Data: data}
			for _, u := range lists {
				for _, w := range lists {
					for _, call := range weylCalls() {
						got := call.run(weylInput{c, u, w, w, rank})
						if !impl.IsCartan(c) && !got.equal(call.failure) {
							t.Errorf("%s of %v: %v", call.name, c, got)
						}
					}
				}
			}
		}
	}
}

// weylInputs has for each type arguments for which functions have results, and others for which some have none.
func weylInputs() []weylInput {
	r := newRandom(660)
	var list []weylInput
	for _, k := range knownTypes() {
		for _, w := range append(someWeights(r, k.c.Rank)[:8], nil, make([]int, 5)) {
			list = append(list,
				weylInput{k.c, randomVector(r, k.c.Rank, r.IntN(61)), randomVector(r, k.c.Rank, r.IntN(9)), w, r.IntN(6)},
				weylInput{k.c, nil, nil, w, 0})
		}
		list = append(list, weylInput{k.c, make([]int, 61), []int{-1}, make([]int, k.c.Rank), -1})
	}
	return list
}

func TestWordsStayAndMemoryIsNew(t *testing.T) {
	inputs := weylInputs()
	for _, call := range weylCalls() {
		for _, in := range inputs {
			once := in.roomy()
			checkMemory(t, call.name, once, func() results { return call.run(once) })
			twice := in.roomy()
			twice.v, twice.w = twice.u, twice.u
			checkMemory(t, call.name, twice, func() results { return call.run(twice) })
		}
	}
}
