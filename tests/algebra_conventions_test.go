package tests

import (
	"math"
	"slices"
	"testing"

	"loop.example/g03109/impl"
)

// algebraInput has an argument of each kind for the functions of algebras.
type algebraInput struct {
	a, b impl.Algebra
	s, t impl.Matrix
	x, y []int
	list []impl.Matrix
}

// algebraCall is a function of algebras, with its results where it fails. It takes b, too, if two is true.
type algebraCall struct {
	name    string
	two     bool
	run     func(in algebraInput) results
	failure results
}

var notAlgebra = results{impl.Algebra{}, false}

func algebraCalls() []algebraCall { return append(callsOfTables(), callsOfSeries()...) }

func callsOfTables() []algebraCall {
	return []algebraCall{
		{"AlgebraOk", false, func(in algebraInput) results { return results{impl.AlgebraOk(in.a)} }, results{false}},
		{"BracketOf", false, func(in algebraInput) results { return results{impl.BracketOf(in.a, in.x, in.y)} }, results{[]int(nil)}},
		{"AdjointOf", false, func(in algebraInput) results { return results{impl.AdjointOf(in.a, in.x)} }, noMatrix},
		{"SumAlgebras", true, func(in algebraInput) results { return pair(impl.SumAlgebras(in.a, in.b)) }, notAlgebra},
		{"ChangeBasis", false, func(in algebraInput) results { return pair(impl.ChangeBasis(in.a, in.t)) }, notAlgebra},
		{"ProductSpace", false, func(in algebraInput) results { return pair(impl.ProductSpace(in.a, in.s, in.s)) }, notMatrix},
		{"IsSubalgebra", false, func(in algebraInput) results { return results{impl.IsSubalgebra(in.a, in.s)} }, results{false}},
		{"IsIdeal", false, func(in algebraInput) results { return results{impl.IsIdeal(in.a, in.s)} }, results{false}},
		{"SubalgebraBy", false, func(in algebraInput) results { return pair(impl.SubalgebraBy(in.a, in.t)) }, notMatrix},
		{"IdealBy", false, func(in algebraInput) results { return pair(impl.IdealBy(in.a, in.t)) }, notMatrix},
		{"SubTable", false, func(in algebraInput) results { return pair(impl.SubTable(in.a, in.s)) }, notAlgebra},
		{"QuotientTable", false, func(in algebraInput) results { return pair(impl.QuotientTable(in.a, in.s)) }, notAlgebra},
		{"CentralizerOf", false, func(in algebraInput) results { return pair(impl.CentralizerOf(in.a, in.s)) }, notMatrix},
		{"NormalizerOf", false, func(in algebraInput) results { return pair(impl.NormalizerOf(in.a, in.s)) }, notMatrix},
		{"CentreOf", false, func(in algebraInput) results { return results{impl.CentreOf(in.a)} }, noMatrix},
		{"IsHomomorphism", true, func(in algebraInput) results { return results{impl.IsHomomorphism(in.a, in.b, in.t)} }, results{false}},
		{"FormatAlgebra", false, func(in algebraInput) results { return results{impl.FormatAlgebra(in.a)} }, results{""}},
		{"EqualAlgebras", true, func(in algebraInput) results { return results{impl.EqualAlgebras(in.a, in.b)} }, results{false}},
	}
}

func callsOfSeries() []algebraCall {
	noMatrices, noLists := results{[]impl.Matrix(nil)}, results{[][]int(nil)}
	return []algebraCall{
		{"DerivedSeries", false, func(in algebraInput) results { return results{impl.DerivedSeries(in.a)} }, noMatrices},
		{"LowerSeries", false, func(in algebraInput) results { return results{impl.LowerSeries(in.a)} }, noMatrices},
		{"UpperSeries", false, func(in algebraInput) results { return results{impl.UpperSeries(in.a)} }, noMatrices},
		{"IsSolvable", false, func(in algebraInput) results { return results{impl.IsSolvable(in.a)} }, results{false}},
		{"ClassOf", false, func(in algebraInput) results { return results{impl.ClassOf(in.a)} }, results{-1}},
		{"IsPerfect", false, func(in algebraInput) results { return results{impl.IsPerfect(in.a)} }, results{false}},
		{"KillingForm", false, func(in algebraInput) results { return results{impl.KillingForm(in.a)} }, noMatrix},
		{"IsInvariant", false, func(in algebraInput) results { return results{impl.IsInvariant(in.a, in.t)} }, results{false}},
		{"OrthogonalOf", false, func(in algebraInput) results { return pair(impl.OrthogonalOf(in.a, in.t, in.s)) }, notMatrix},
		{"InvariantForms", false, func(in algebraInput) results { return results{impl.InvariantForms(in.a)} }, noLists},
		{"IsDerivation", false, func(in algebraInput) results { return results{impl.IsDerivation(in.a, in.t)} }, results{false}},
		{"Derivations", false, func(in algebraInput) results { return results{impl.Derivations(in.a)} }, noLists},
		{"InnerDerivations", false, func(in algebraInput) results { return results{impl.InnerDerivations(in.a)} }, noLists},
		{"IsAutomorphism", false, func(in algebraInput) results { return results{impl.IsAutomorphism(in.a, in.t)} }, results{false}},
		{"SemidirectBy", false, func(in algebraInput) results { return pair(impl.SemidirectBy(in.a, in.t)) }, notAlgebra},
		{"IsCocycle", false, func(in algebraInput) results { return results{impl.IsCocycle(in.a, in.t)} }, results{false}},
		{"ExtendBy", false, func(in algebraInput) results { return pair(impl.ExtendBy(in.a, in.t)) }, notAlgebra},
	}
}

func callOfList(in algebraInput) results { return pair(impl.AlgebraOfMatrices(in.list)) }

func (in algebraInput) roomy() algebraInput {
	in.a.Table, in.b.Table = roomy(in.a.Table), roomy(in.b.Table)
	in.s.Data, in.t.Data = roomy(in.s.Data), roomy(in.t.Data)
	in.x, in.y = roomy(in.x), roomy(in.y)
	// There is room behind the list, too.
	list := append(slices.Clone(in.list), matrixOf(31, 4, 1, 5), matrixOf(9, 2, 6, 5))[:len(in.list)]
	for i := range list {
		list[i].Data = roomy(list[i].Data)
	}
	in.list = list
	return in
}

func (in algebraInput) slices() [][]int {
	lists := [][]int{in.a.Table, in.b.Table, in.s.Data, in.t.Data, in.x, in.y}
	for _, m := range in.list {
		lists = append(lists, m.Data)
	}
	return lists
}

func (in algebraInput) memory() [][]int {
	var copies [][]int
	for _, list := range in.slices() {
		copies = append(copies, slices.Clone(whole(list)))
	}
	for _, m := range in.list[:cap(in.list)] {
		copies = append(copies, append([]int{m.P, m.Rows, m.Cols}, m.Data...))
	}
	return copies
}

func (in algebraInput) overwrite() {
	scribble(in.slices()...)
	for i := range in.list {
		in.list[i] = impl.Matrix{P: -1}
	}
}

// validAlgebraInputs has arguments for which functions succeed, and others for which they fail although they are valid.
func validAlgebraInputs() []algebraInput {
	r := newRandom(70)
	list := []algebraInput{
		{},
		{a: algebraOf(5, 0), b: algebraOf(5, 0), s: matrixOf(5, 0, 0), t: matrixOf(5, 0, 0), list: []impl.Matrix{matrixOf(5, 0, 0)}},
		{a: affine(5), b: affine(7), s: matrixOf(7, 1, 2, 0, 1), t: matrixOf(7, 2, 2, 1, 0, 0, 1), x: []int{5, 0}, y: []int{1}, list: singles(5, 2, 1, 2)},
		{a: withTerms(2, 28), b: withTerms(2, 28), s: impl.UnitMatrix(2, 28), t: impl.UnitMatrix(2, 28), x: make([]int, 28), y: make([]int, 28), list: diagonals(2, 28)},
		{a: special(5), b: special(5), s: matrixOf(5, 2, 3, 0, 1, 0, 0, 0, 1), t: constant(5, 3, 3, 1), x: []int{1, 2, 3}, y: []int{1, 2, 3}, list: diagonals(5, 29)},
	}
	for _, p := range []int{2, 5, 10007} {
		for _, a := range fewAlgebras(p) {
			b := fewAlgebras(p)[r.IntN(len(fewAlgebras(p)))]
			for _, m := range []impl.Matrix{adjointBy(a, randomVector(r, p, a.Dim)), coboundaryBy(a, randomVector(r, p, a.Dim)), killingBy(a), constant(p, a.Dim, a.Dim, 0)} {
				list = append(list, algebraInput{a: a, b: b, s: impl.CentreOf(a), t: m})
			}
			for _, s := range []impl.Matrix{impl.UnitMatrix(p, a.Dim), matrixOf(p, 0, a.Dim), impl.CentreOf(a), impl.SpanOf(lowRank(r, p, a.Dim, a.Dim, 1))} {
				list = append(list, algebraInput{a, b, s, invertible(r, p, a.Dim), randomVector(r, p, a.Dim), randomVector(r, p, a.Dim), scrambledList(r, general(p, 2), singles(p, 2, 0, 1, 2, 3))})
			}
		}
	}
	return list
}

func TestFunctionsOfInvalidAlgebras(t *testing.T) {
	calls := algebraCalls()
	for _, bad := range algebrasWithFlaws() {
		n := min(max(bad.Dim, 0), 28)
		unit := impl.UnitMatrix(5, n)
		if validMatrix(matrixOf(bad.P, 0, 0)) {
			unit = impl.UnitMatrix(bad.P, n)
		}
		good := withTerms(unit.P, 2)
		for _, s := range []impl.Matrix{unit, matrixOf(unit.P, 0, n), {}, matrixOf(bad.P, 0, bad.Dim)} {
			in := algebraInput{bad, bad, s, s, make([]int, n), make([]int, n), nil}
			for _, call := range calls {
				checkFailing(t, call.name, in, call.failure, func() results { return call.run(in) })
				one := in
				one.b = good
				checkFailing(t, call.name, one, call.failure, func() results { return call.run(one) })
				if call.two {
					other := in
					other.a = good
					checkFailing(t, call.name, other, call.failure, func() results { return call.run(other) })
				}
			}
		}
	}
}

// TestFunctionsOfAnyAlgebra has all mixtures of fields, among them the least and the greatest integers.
func TestFunctionsOfAnyAlgebra(t *testing.T) {
	calls := algebraCalls()
	numbers := []int{math.MinInt, -1, 0, 1, 2, 3, 28, 29, 1 << 32, math.MaxInt}
	for _, p := range append(numbers, 10007, 10009) {
		for _, dim := range numbers {
			for _, table := range [][]int{nil, {0}, {1}, {0, 0, 0, 1, 0, p - 1, 0, 0}, make([]int, 27), {math.MinInt, math.MaxInt}} {
				a := algebraOf(p, dim, table...)
				valid := validAlgebra(a)
				if impl.AlgebraOk(a) != valid {
					t.Error(a)
				}
				m := matrixOf(p, dim, dim, table...)
				in := algebraInput{a, a, m, m, table, table, []impl.Matrix{m, m}}
				for _, call := range calls {
					if got := call.run(in); !valid && !got.equal(call.failure) {
						t.Errorf("%s of %v: %v", call.name, a, got)
					}
				}
				callOfList(in)
			}
		}
	}
}

func TestAlgebrasStayAndMemoryIsNew(t *testing.T) {
	calls := append(algebraCalls(), algebraCall{"AlgebraOfMatrices", false, callOfList, notAlgebra})
	for _, call := range calls {
		for _, in := range validAlgebraInputs() {
			once := in.roomy()
			checkMemory(t, call.name, once, func() results { return call.run(once) })
			twice := in.roomy()
			twice.b, twice.t, twice.y = twice.a, twice.s, twice.x
			checkMemory(t, call.name, twice, func() results { return call.run(twice) })
		}
	}
	for _, run := range []func() impl.Algebra{
		func() impl.Algebra { return impl.AbelianAlgebra(5, 2) },
		func() impl.Algebra { a, _ := impl.ParseAlgebra("5 2\n0 1 1 1\n"); return a },
	} {
		first, second := run(), run()
		kept := slices.Clone(second.Table)
		scribble(first.Table)
		if len(kept) != 8 || !slices.Equal(second.Table, kept) || !slices.Equal(run().Table, kept) {
			t.Error(first, second)
		}
	}
}

// TestFailuresOfValidAlgebras says that all functions that fail give zero values.
func TestFailuresOfValidAlgebras(t *testing.T) {
	failed, done := map[string]bool{}, map[string]bool{}
	calls := append(algebraCalls(), algebraCall{"AlgebraOfMatrices", false, callOfList, notAlgebra})
	for _, call := range calls {
		for _, in := range validAlgebraInputs() {
			got := call.run(in)
			ok, two := got[len(got)-1].(bool)
			if two && !ok {
				failed[call.name] = true
				if !got.equal(call.failure) {
					t.Errorf("%s of %v: %v", call.name, in, got)
				}
			}
			if two && ok {
				done[call.name] = true
			}
		}
	}
	for _, name := range []string{"SumAlgebras", "AlgebraOfMatrices", "ChangeBasis", "ProductSpace", "SubalgebraBy", "IdealBy", "SubTable", "QuotientTable", "CentralizerOf", "NormalizerOf", "OrthogonalOf", "SemidirectBy", "ExtendBy"} {
		if !failed[name] || !done[name] {
			t.Error(name, failed[name], done[name])
		}
	}
}
