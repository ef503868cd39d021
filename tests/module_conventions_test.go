package tests

import (
	"math"
	"slices"
	"testing"

	"loop.example/g03109/impl"
)

// moduleInput has an argument of each kind for the functions of modules.
type moduleInput struct {
	a        impl.Algebra
	m, n     []impl.Matrix
	s        impl.Matrix
	x        []int
	elements []int
	size     int
	c        impl.Cartan
	p        int
	w        []int
}

func (in moduleInput) slices() [][]int {
	lists := [][]int{in.a.Table, in.s.Data, in.x, in.elements, in.c.Data, in.w}
	for _, m := range slices.Concat(in.m, in.n) {
		lists = append(lists, m.Data)
	}
	return lists
}

// roomyMatrices also has room behind the list.
func roomyMatrices(list []impl.Matrix) []impl.Matrix {
	copied := copyEach(list, func(m impl.Matrix) impl.Matrix { m.Data = roomy(m.Data); return m })
	return append(copied, matrixOf(31, 4, 1, 5), matrixOf(9, 2, 6, 5))[:len(list)]
}

func (in moduleInput) roomy() moduleInput {
	in.a.Table, in.s.Data, in.x, in.elements, in.c.Data, in.w = roomy(in.a.Table), roomy(in.s.Data), roomy(in.x), roomy(in.elements), roomy(in.c.Data), roomy(in.w)
	in.m, in.n = roomyMatrices(in.m), roomyMatrices(in.n)
	return in
}

func (in moduleInput) memory() [][]int {
	copies := copyEach(in.slices(), func(v []int) []int { return slices.Clone(whole(v)) })
	for _, list := range [][]impl.Matrix{in.m, in.n} {
		for _, m := range list[:cap(list)] {
			copies = append(copies, append([]int{m.P, m.Rows, m.Cols}, m.Data...))
		}
	}
	return copies
}

func (in moduleInput) overwrite() {
	scribble(in.slices()...)
	for _, list := range [][]impl.Matrix{in.m, in.n} {
		for i := range list {
			list[i] = impl.Matrix{P: -1}
		}
	}
}

// moduleCall is a function of modules, with its results where it fails. It takes an algebra, so many modules of it, or a
// Cartan matrix.
type moduleCall struct {
	name    string
	takesA  bool
	modules int
	takesC  bool
	run     func(in moduleInput) results
	failure results
}

func moduleCalls() []moduleCall {
	noMatrices, notMatrices := results{[]impl.Matrix(nil)}, results{[]impl.Matrix(nil), false}
	notTerms := results{[]impl.Term(nil), false}
	return []moduleCall{
		{"IsModule", true, 1, false, func(in moduleInput) results { return results{impl.IsModule(in.a, in.m)} }, results{false}},
		{"MatrixOf", true, 1, false, func(in moduleInput) results { return pair(impl.MatrixOf(in.a, in.m, in.x)) }, notMatrix},
		{"AdjointModule", true, 0, false, func(in moduleInput) results { return results{impl.AdjointModule(in.a)} }, noMatrices},
		{"ZeroModule", true, 0, false, func(in moduleInput) results { return results{impl.ZeroModule(in.a, in.size)} }, noMatrices},
		{"DualModule", true, 1, false, func(in moduleInput) results { return results{impl.DualModule(in.a, in.m)} }, noMatrices},
		{"SumModules", true, 2, false, func(in moduleInput) results { return pair(impl.SumModules(in.a, in.m, in.n)) }, notMatrices},
		{"TensorModules", true, 2, false, func(in moduleInput) results { return pair(impl.TensorModules(in.a, in.m, in.n)) }, notMatrices},
		{"SubmoduleBy", true, 1, false, func(in moduleInput) results { return pair(impl.SubmoduleBy(in.a, in.m, in.s)) }, notMatrix},
		{"IsSubmodule", true, 1, false, func(in moduleInput) results { return results{impl.IsSubmodule(in.a, in.m, in.s)} }, results{false}},
		{"RestrictTo", true, 1, false, func(in moduleInput) results { return pair(impl.RestrictTo(in.a, in.m, in.s)) }, notMatrices},
		{"QuotientModule", true, 1, false, func(in moduleInput) results { return pair(impl.QuotientModule(in.a, in.m, in.s)) }, notMatrices},
		{"KilledBy", true, 1, false, func(in moduleInput) results { return pair(impl.KilledBy(in.a, in.m, in.elements)) }, notMatrix},
		{"MapsBetween", true, 2, false, func(in moduleInput) results { return results{impl.MapsBetween(in.a, in.m, in.n)} }, results{[][]int(nil)}},
		{"CasimirOf", true, 1, false, func(in moduleInput) results { return pair(impl.CasimirOf(in.a, in.m)) }, notMatrix},
		{"SimpleModule", false, 0, true, func(in moduleInput) results { return pair(impl.SimpleModule(in.c, in.p, in.w)) }, notMatrices},
		{"WeightsIn", false, 0, true, func(in moduleInput) results { return pair(impl.WeightsIn(in.c, in.p, in.m)) }, notTerms},
		{"HighestIn", false, 0, true, func(in moduleInput) results { return pair(impl.HighestIn(in.c, in.p, in.m)) }, notTerms},
	}
}

func TestModuleFunctionsOfInvalidAlgebras(t *testing.T) {
	for _, bad := range algebrasWithFlaws() {
		for _, n := range []int{0, 1, 2, 3, 28} {
			for size := range 3 {
				p := bad.P
				if !impl.IsPrime(p) {
					p = 5
				}
				m := slices.Repeat([]impl.Matrix{constant(p, size, size, 0)}, n)
				in := moduleInput{a: bad, m: m, n: m, s: matrixOf(p, 0, size), x: make([]int, n), size: size}.roomy()
				for _, call := range moduleCalls() {
					if call.takesA {
						checkFailing(t, call.name, in, call.failure, func() results { return call.run(in) })
					}
				}
			}
		}
	}
}

func TestModuleFunctionsOfNoModules(t *testing.T) {
	a := special(101)
	good := naturalModules(newRandom(1), 101)[12].m
	for _, bad := range noModules() {
		in := moduleInput{a: a, m: bad, n: good, s: matrixOf(101, 0, 2), x: []int{1, 0, 0}, elements: []int{0}}.roomy()
		other := moduleInput{a: a, m: good, n: bad}.roomy()
		for _, call := range moduleCalls() {
			if call.modules > 0 {
				checkFailing(t, call.name, in, call.failure, func() results { return call.run(in) })
			}
			if call.modules > 1 {
				checkFailing(t, call.name, other, call.failure, func() results { return call.run(other) })
			}
		}
	}
	empty := moduleInput{a: algebraOf(101, 0), s: matrixOf(101, 0, 0)}
	for _, call := range moduleCalls() {
		if call.takesA {
			checkFailing(t, call.name, empty, call.failure, func() results { return call.run(empty) })
		}
	}
}

func TestModuleFunctionsOfNoCartanMatrix(t *testing.T) {
	weights := [][]int{nil, {0}, {1}, {0, 0}, {1, 0}, {0, 0, 0}, {0, 0, 0, 0}, {0, 0, 0, 0, 0}, {math.MinInt}}
	for _, c := range noCartans() {
		for i, w := range weights {
			for _, p := range []int{101, 7, 100, math.MaxInt} {
				m := slices.Repeat([]impl.Matrix{constant(p, 1, 1, 0)}, []int{0, 3, 8, 10, 14}[i%5])
				in := moduleInput{c: c, p: p, w: w, m: m}.roomy()
				for _, call := range moduleCalls() {
					if call.takesC {
						checkFailing(t, call.name, in, call.failure, func() results { return call.run(in) })
					}
				}
			}
		}
	}
}

// TestModuleFunctionsOfAnything has all mixtures of sizes, lists and fields, among them the least and the greatest integers.
func TestModuleFunctionsOfAnything(t *testing.T) {
	lists := [][]int{nil, {0}, {1}, {2}, {-1, 0}, {math.MinInt, math.MaxInt}, {1, 0, 0, 1}, make([]int, 8), {2, -1, -2, 2}}
	numbers := []int{math.MinInt, -1, 0, 1, 2, 3, 30, 31, 40, 41, 101, 10007, 1 << 32, math.MaxInt}
	for _, p := range numbers {
		for _, n := range numbers {
			for i, list := range lists {
				for _, rows := range numbers {
					x := matrixOf(p, rows, n, list...)
					y := matrixOf(p, n, n, list...)
					a := algebraOf(p, n, lists[(i+n%3+9)%9]...)
					in := moduleInput{a: a, m: []impl.Matrix{x}, n: []impl.Matrix{y, x}, s: y, x: list, elements: list, size: rows, c: impl.Cartan{Rank: n, Data: list}, p: rows, w: list}
					valid, isModule := validAlgebra(a), moduleBy(a, in.m)
					for _, call := range moduleCalls() {
						got := call.run(in)
						if (call.takesA && !valid || call.modules > 0 && !isModule || call.takesC && !impl.IsCartan(in.c)) && !got.equal(call.failure) {
							t.Errorf("%s of %v: %v", call.name, in, got)
						}
					}
				}
			}
		}
	}
}

// moduleInputs has arguments for which functions have results, and others for which some have none.
func moduleInputs() []moduleInput {
	r := newRandom(1060)
	c := namedTable("A1").c
	list := []moduleInput{{}, {a: algebraOf(5, 0), s: matrixOf(5, 0, 0)}, {a: special(101), m: zeroModuleBy(special(101), 30), n: zeroModuleBy(special(101), 1), s: matrixOf(101, 0, 30), x: []int{1}, elements: []int{3}, size: 31, c: c, p: 97, w: []int{4}}}
	for i, k := range append(someModules(r, 5), someModules(r, 101)...) {
		if i%3 > 0 {
			continue
		}
		space, _ := impl.SubmoduleBy(k.a, k.m, lowRank(r, k.a.P, 2, k.size(), 1))
		for _, s := range []impl.Matrix{space, k.all(), k.none(), impl.SpanOf(randomMatrix(r, k.a.P, 1, k.size()))} {
			list = append(list, moduleInput{k.a, k.m, inBasis(r, dualBy(k.m)), s, randomVector(r, k.a.P, k.a.Dim), randomVector(r, k.a.Dim, i%3), i % 4, c, 101, []int{i % 4}})
		}
	}
	for _, name := range []string{"A1", "A2", "G2", "A1+A1"} {
		table := namedTable(name)
		for _, w := range table.smallHighest()[:3] {
			m, _ := impl.SimpleModule(table.c, 101, w)
			list = append(list, moduleInput{a: table.table(101), m: m, n: inBasis(r, m), s: impl.UnitMatrix(101, m[0].Rows), x: make([]int, table.dim()), elements: []int{0, 1}, c: table.c, p: 101, w: w})
		}
	}
	return list
}

func TestModuleArgumentsStayAndMemoryIsNew(t *testing.T) {
	inputs := moduleInputs()
	for _, call := range moduleCalls() {
		for _, in := range inputs {
			once := in.roomy()
			checkMemory(t, call.name, once, func() results { return call.run(once) })
			twice := in.roomy()
			twice.n, twice.w = twice.m, twice.x
			checkMemory(t, call.name, twice, func() results { return call.run(twice) })
		}
	}
}

// TestFailuresOfModuleFunctions says that all functions that fail give zero values, and each of them fails for something.
func TestFailuresOfModuleFunctions(t *testing.T) {
	o := noOutcomes()
	for _, call := range moduleCalls() {
		for _, in := range moduleInputs() {
			o.note(t, call.name, in, call.run(in), call.failure)
		}
	}
	o.mustHaveBoth(t, "IsModule", "MatrixOf", "SumModules", "TensorModules", "SubmoduleBy", "IsSubmodule", "RestrictTo", "QuotientModule", "KilledBy", "CasimirOf", "SimpleModule", "WeightsIn", "HighestIn")
}
