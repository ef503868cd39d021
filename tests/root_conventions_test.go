package tests

import (
	"math"
	"slices"
	"testing"

	"loop.example/g03109/impl"
)

// rootInput has an argument of each kind for the functions of Cartan matrices.
type rootInput struct {
	c    impl.Cartan
	x, r []int
}

func (in rootInput) roomy() rootInput {
	in.c.Data, in.x, in.r = roomy(in.c.Data), roomy(in.x), roomy(in.r)
	return in
}

func (in rootInput) memory() [][]int {
	return [][]int{slices.Clone(whole(in.c.Data)), slices.Clone(whole(in.x)), slices.Clone(whole(in.r))}
}

func (in rootInput) overwrite() { scribble(in.c.Data, in.x, in.r) }

// rootCall is a function of Cartan matrices, with its results for a matrix that is none.
type rootCall struct {
	name    string
	run     func(in rootInput) results
	failure results
}

func rootCalls() []rootCall {
	noList, noLists := results{[]int(nil)}, results{[][]int(nil)}
	return []rootCall{
		{"IsCartan", func(in rootInput) results { return results{impl.IsCartan(in.c)} }, results{false}},
		{"TypeOf", func(in rootInput) results { return results{impl.TypeOf(in.c)} }, results{""}},
		{"LengthsOf", func(in rootInput) results { return results{impl.LengthsOf(in.c)} }, noList},
		{"PositiveRoots", func(in rootInput) results { return results{impl.PositiveRoots(in.c)} }, noLists},
		{"IsRoot", func(in rootInput) results { return results{impl.IsRoot(in.c, in.x)} }, results{false}},
		{"HighestRoot", func(in rootInput) results { return pair(impl.HighestRoot(in.c)) }, results{[]int(nil), false}},
		{"WeightOf", func(in rootInput) results { return results{impl.WeightOf(in.c, in.x)} }, noList},
		{"InnerOf", func(in rootInput) results { return results{impl.InnerOf(in.c, in.x, in.r)} }, results{0}},
		{"PairOf", func(in rootInput) results { return results{impl.PairOf(in.c, in.x, in.r)} }, results{0}},
		{"CorootOf", func(in rootInput) results { return results{impl.CorootOf(in.c, in.r)} }, noList},
		{"ReflectBy", func(in rootInput) results { return results{impl.ReflectBy(in.c, in.r, in.x)} }, noList},
		{"RootString", func(in rootInput) results { return pair(impl.RootString(in.c, in.r, in.x)) }, results{-1, -1}},
		{"ExponentsOf", func(in rootInput) results { return results{impl.ExponentsOf(in.c)} }, noList},
	}
}

// rootInputs has for each Cartan matrix its roots and other lattice elements, and lists that are none.
func rootInputs() []rootInput {
	r := newRandom(220)
	var list []rootInput
	for _, k := range knownTypes() {
		roots := impl.PositiveRoots(k.c)
		for i, x := range roots {
			other := roots[r.IntN(len(roots))]
			list = append(list, rootInput{k.c, x, other}, rootInput{k.c, stepped(x, -2, x), other}, rootInput{k.c, randomLattice(r, k.c.Rank), x})
			if i == 0 {
				list = append(list, rootInput{k.c, x, x}, rootInput{k.c, x, stepped(x, -2, x)}, rootInput{k.c, nil, nil}, rootInput{k.c, x, nil}, rootInput{k.c, nil, x})
			}
		}
	}
	return list
}

func TestFunctionsOfNoCartanMatrix(t *testing.T) {
	for _, c := range noCartans() {
		for _, x := range [][]int{nil, {}, {1}, {-1}, {0}, {1, 0}, {0, 1}, {1, 1}, {1, 0, 0}, {1, 0, 0, 0}, {0, 0, 0, 1}, {1, 0, 0, 0, 0}, {math.MinInt}} {
			for _, r := range [][]int{x, slices.Clone(x), nil, {1, 0}} {
				for _, call := range rootCalls() {
					in := rootInput{c, x, r}.roomy()
					checkFailing(t, call.name, in, call.failure, func() results { return call.run(in) })
				}
			}
		}
	}
}

// TestFunctionsOfAnyCartan has all mixtures of ranks and lists, among them the least and the greatest integers.
func TestFunctionsOfAnyCartan(t *testing.T) {
	valid := 0
	for _, rank := range []int{math.MinInt, -2, -1, 0, 1, 2, 3, 4, 5, 1 << 31, 1 << 32, math.MaxInt} {
		for _, data := range [][]int{nil, {0}, {2}, {2, 0, 0, 2}, {2, -1, -1, 2}, {2, -1, -2, 2}, {math.MinInt}, {math.MinInt, math.MaxInt}, make([]int, 16), knownParts()[9].data, make([]int, 25)} {
			for _, x := range [][]int{nil, data, {1}, {1, 0}, {math.MinInt, math.MaxInt}, {1, 0, 0, 0}} {
				c := impl.Cartan{Rank: rank, Data: data}
				isValid := rank == 1 && text(data) == text([]int{2}) || rank == 2 && len(data) == 4 || rank == 4 && slices.Equal(data, knownParts()[9].data)
				if impl.IsCartan(c) != isValid {
					t.Error(c)
				}
				if isValid {
					valid++
				}
				for _, call := range rootCalls() {
					if got := call.run(rootInput{c, x, data}); !isValid && !got.equal(call.failure) {
						t.Errorf("%s of %v: %v", call.name, c, got)
					}
				}
			}
		}
	}
	if valid != 30 {
		t.Error(valid)
	}
}

func TestCartanMatricesStayAndMemoryIsNew(t *testing.T) {
	for _, call := range rootCalls() {
		for _, in := range rootInputs() {
			once := in.roomy()
			checkMemory(t, call.name, once, func() results { return call.run(once) })
			twice := in.roomy()
			twice.r = twice.x
			checkMemory(t, call.name, twice, func() results { return call.run(twice) })
		}
	}
	for _, k := range knownTypes() {
		checkMemory(t, "CartanOf", rootInput{}, func() results { return pair(impl.CartanOf(k.name())) })
	}
}
