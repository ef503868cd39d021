package tests

import (
	"math"
	"slices"
	"testing"

	"loop.example/g03109/impl"
)

// simpleInput has an argument of each kind for the functions of simple algebras.
type simpleInput struct {
	c    impl.Cartan
	x, y []int
	p, i int
	a    impl.Algebra
	s    impl.Matrix
	e, f [][]int
}

func (in simpleInput) slices() [][]int {
	return slices.Concat([][]int{in.c.Data, in.x, in.y, in.a.Table, in.s.Data}, in.e, in.f)
}

func (in simpleInput) roomy() simpleInput {
	in.c.Data, in.x, in.y = roomy(in.c.Data), roomy(in.x), roomy(in.y)
	in.a.Table, in.s.Data = roomy(in.a.Table), roomy(in.s.Data)
	in.e, in.f = roomyLists(in.e), roomyLists(in.f)
	return in
}

// roomyLists also has room behind the list of lists.
func roomyLists(lists [][]int) [][]int {
	return append(copyEach(lists, roomy), []int{27, 18}, []int{28})[:len(lists)]
}

func (in simpleInput) memory() [][]int {
	copies := copyEach(in.slices(), func(v []int) []int { return slices.Clone(whole(v)) })
	for _, lists := range [][][]int{in.e, in.f} {
		for _, v := range lists[:cap(lists)] {
			copies = append(copies, slices.Clone(v))
		}
	}
	return copies
}

func (in simpleInput) overwrite() {
	scribble(in.slices()...)
	for _, lists := range [][][]int{in.e, in.f} {
		for i := range lists {
			lists[i] = []int{-7}
		}
	}
}

// simpleCall is a function of simple algebras, with its results where it fails: for a matrix that is no Cartan matrix, for an
// algebra that is not valid, or for both.
type simpleCall struct {
	name           string
	takesC, takesA bool
	run            func(in simpleInput) results
	failure        results
}

func simpleCalls() []simpleCall {
	return []simpleCall{
		{"ConstantOf", true, false, func(in simpleInput) results { return results{impl.ConstantOf(in.c, in.x, in.y)} }, results{0}},
		{"RootIndex", true, false, func(in simpleInput) results { return results{impl.RootIndex(in.c, in.x)} }, results{-1}},
		{"SimpleTable", true, false, func(in simpleInput) results { return pair(impl.SimpleTable(in.c, in.p)) }, notAlgebra},
		{"CartanSpace", true, false, func(in simpleInput) results { return pair(impl.CartanSpace(in.c, in.p)) }, notMatrix},
		{"ReflectionMap", true, false, func(in simpleInput) results { return pair(impl.ReflectionMap(in.c, in.p, in.i)) }, notMatrix},
		{"SerreOk", true, true, func(in simpleInput) results { return results{impl.SerreOk(in.a, in.c, in.e, in.f)} }, results{false}},
		{"IsToral", false, true, func(in simpleInput) results { return results{impl.IsToral(in.a, in.s)} }, results{false}},
		{"RootSpaces", false, true, func(in simpleInput) results { return pair(impl.RootSpaces(in.a, in.s)) }, results{[][]int(nil), []impl.Matrix(nil)}},
		{"TypeOfAlgebra", false, true, func(in simpleInput) results { return results{impl.TypeOfAlgebra(in.a, in.s)} }, results{""}},
	}
}

func TestSimpleFunctionsOfNoCartanMatrix(t *testing.T) {
	a := special(7)
	lists := [][]int{nil, {1}, {-1}, {1, 0}, {0, 1}, {1, 0, 0}, {1, 0, 0, 0}, {0, 0, 0, 0, 1}}
	for _, c := range noCartans() {
		for i, x := range lists {
			for _, p := range []int{2, 7, 101, 9, 0} {
				for rows := range 4 {
					e := slices.Repeat([][]int{make([]int, 3)}, rows)
					in := simpleInput{c, x, lists[(i+1)%len(lists)], p, i - 1, a, matrixOf(7, 1, 3, 1, 0, 0), e, e}.roomy()
					for _, call := range simpleCalls() {
						if call.takesC {
							checkFailing(t, call.name, in, call.failure, func() results { return call.run(in) })
						}
					}
				}
			}
		}
	}
}

func TestSimpleFunctionsOfInvalidAlgebras(t *testing.T) {
	for _, bad := range algebrasWithFlaws() {
		n := min(max(bad.Dim, 0), 28)
		for _, s := range []impl.Matrix{impl.UnitMatrix(bad.P, n), matrixOf(bad.P, 0, bad.Dim), matrixOf(bad.P, 0, n), unitRows(5, n, upTo(min(n, 1))...), {}} {
			for _, c := range []impl.Cartan{{Rank: 1, Data: []int{2}}, {Rank: 2, Data: []int{2, -1, -1, 2}}} {
				e := slices.Repeat([][]int{make([]int, n)}, c.Rank)
				in := simpleInput{c, nil, nil, 7, 0, bad, s, e, e}.roomy()
				for _, call := range simpleCalls() {
					if call.takesA {
						checkFailing(t, call.name, in, call.failure, func() results { return call.run(in) })
					}
				}
			}
		}
	}
}

func TestToralFunctionsOfInvalidSpaces(t *testing.T) {
	a1 := namedTable("A1").table(5)
	bad := append(invalidMatrices(), constant(5, 1, 3, 0), matrixOf(5, 1, 3, 0, 2, 0), matrixOf(5, 2, 3, 0, 1, 0, 0, 0, 0), matrixOf(7, 1, 3, 0, 1, 0), matrixOf(5, 0, 2), matrixOf(5, 0, 4), matrixOf(7, 0, 3), matrixOf(5, 3, 0))
	for _, s := range bad {
		in := simpleInput{a: a1, s: s}.roomy()
		for _, call := range simpleCalls() {
			if call.takesA && !call.takesC {
				checkFailing(t, call.name, in, call.failure, func() results { return call.run(in) })
			}
		}
	}
}

// TestSimpleFunctionsOfAnything has all mixtures of ranks, lists and fields, among them the least and the greatest integers.
func TestSimpleFunctionsOfAnything(t *testing.T) {
	lists := [][]int{nil, {0}, {1}, {-1, 0}, {math.MinInt, math.MaxInt}, {math.MaxInt, 0}, {1, 0, 0, 0}, {0, 0, 1, 0, 0, 0, 0, 0}}
	numbers := []int{math.MinInt, -1, 0, 1, 2, 3, 4, 7, 28, 101, 10007, 1 << 32, math.MaxInt}
	for _, rank := range []int{math.MinInt, -1, 0, 1, 2, 4, 5, 1 << 32, math.MaxInt} {
		for _, data := range [][]int{nil, {2}, {2, -1, -2, 2}, {math.MinInt}, make([]int, 16), knownParts()[9].data} {
			c := impl.Cartan{Rank: rank, Data: data}
			isCartan := impl.IsCartan(c)
			for _, x := range lists {
				for i, p := range numbers {
					n := numbers[(i+5)%len(numbers)]
					in := simpleInput{c, x, x, p, n, algebraOf(p, n, x...), matrixOf(p, n, rank, x...), [][]int{x, nil}, [][]int{x, data}}
					for _, call := range simpleCalls() {
						got := call.run(in)
						if (call.takesC && !isCartan || call.takesA && !validAlgebra(in.a)) && !got.equal(call.failure) {
							t.Errorf("%s of %v: %v", call.name, in, got)
						}
					}
				}
			}
		}
	}
}

// simpleInputs has for each type arguments for which functions have results, and others for which some have none.
func simpleInputs() []simpleInput {
	r := newRandom(780)
	var list []simpleInput
	for i, table := range smallTables() {
		if i%4 > 0 && i > 12 {
			continue
		}
		p := []int{5, 7, 11, 3}[i%4]
		a, s := table.table(p), table.cartanRows(p)
		e, f := table.generators()
		x, y := table.roots[r.IntN(len(table.roots))], table.roots[r.IntN(len(table.roots))]
		list = append(list,
			simpleInput{table.c, x, y, p, r.IntN(table.c.Rank), a, s, e, f},
			simpleInput{table.c, randomLattice(r, table.c.Rank), y, 6, table.c.Rank, a, matrixOf(p, 0, a.Dim), f, e[:1]},
			simpleInput{table.c, nil, x, 103, -1, table.table(103), table.cartanRows(103), nil, nil})
	}
	a, severalRows := graded(7, 2, [][]int{{1, 0}, {1, 0}, {6, 3}, {6, 3}, {0, 0}})
	return append(list,
		simpleInput{c: namedTable("F4").c, x: []int{2, 3, 4, 2}, y: []int{-1, 0, 0, 0}, p: 7, a: withTerms(5, 3), s: impl.UnitMatrix(5, 3)},
		simpleInput{a: algebraOf(5, 0), s: matrixOf(5, 0, 0)},
		simpleInput{a: a, s: severalRows})
}

func TestSimpleArgumentsStayAndMemoryIsNew(t *testing.T) {
	inputs := simpleInputs()
	for _, call := range simpleCalls() {
		for _, in := range inputs {
			once := in.roomy()
			checkMemory(t, call.name, once, func() results { return call.run(once) })
			twice := in.roomy()
			twice.y, twice.f = twice.x, twice.e
			checkMemory(t, call.name, twice, func() results { return call.run(twice) })
		}
	}
}

// TestFailuresOfSimpleFunctions says that all functions that fail give zero values.
func TestFailuresOfSimpleFunctions(t *testing.T) {
	o := noOutcomes()
	for _, call := range simpleCalls() {
		for _, in := range simpleInputs() {
			o.note(t, call.name, in, call.run(in), call.failure)
		}
	}
	o.mustHaveBoth(t, "SimpleTable", "CartanSpace", "ReflectionMap", "SerreOk", "IsToral")
}
