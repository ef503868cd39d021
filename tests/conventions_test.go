package tests

import (
	"math"
	"reflect"
	"slices"
	"testing"

	"loop.example/g03109/impl"
)

// input has an argument of each kind for the functions of matrices.
type input struct {
	a, b impl.Matrix
	v    []int
	k    int
}

type results []any

// matrixCall is a function of matrices, with its results for a matrix that is not valid.
type matrixCall struct {
	name    string
	two     bool
	run     func(in input) results
	failure results
}

var (
	noMatrix  = results{impl.Matrix{}}
	notMatrix = results{impl.Matrix{}, false}
)

func matrixCalls() []matrixCall {
	return []matrixCall{
		{"MatrixOk", false, func(in input) results { return results{impl.MatrixOk(in.a)} }, results{false}},
		{"AddMatrices", true, func(in input) results { return pair(impl.AddMatrices(in.a, in.b)) }, notMatrix},
		{"ScaleMatrix", false, func(in input) results { return results{impl.ScaleMatrix(in.a, in.k)} }, noMatrix},
		{"MulMatrices", true, func(in input) results { return pair(impl.MulMatrices(in.a, in.b)) }, notMatrix},
		{"TransposeMatrix", false, func(in input) results { return results{impl.TransposeMatrix(in.a)} }, noMatrix},
		{"CommutatorOf", true, func(in input) results { return pair(impl.CommutatorOf(in.a, in.b)) }, notMatrix},
		{"TraceOf", false, func(in input) results { return pair(impl.TraceOf(in.a)) }, results{0, false}},
		{"ReduceMatrix", false, func(in input) results { return pair(impl.ReduceMatrix(in.a)) }, results{impl.Matrix{}, []int(nil)}},
		{"RankOf", false, func(in input) results { return results{impl.RankOf(in.a)} }, results{-1}},
		{"DeterminantOf", false, func(in input) results { return pair(impl.DeterminantOf(in.a)) }, results{0, false}},
		{"KernelOf", false, func(in input) results { return results{impl.KernelOf(in.a)} }, noMatrix},
		{"SolveMatrix", false, func(in input) results { return pair(impl.SolveMatrix(in.a, in.v)) }, results{[]int(nil), false}},
		{"InverseMatrix", false, func(in input) results { return pair(impl.InverseMatrix(in.a)) }, notMatrix},
		{"NilpotencyOf", false, func(in input) results { return results{impl.NilpotencyOf(in.a)} }, results{-1}},
		{"SpanOf", false, func(in input) results { return results{impl.SpanOf(in.a)} }, noMatrix},
		{"SpaceOk", false, func(in input) results { return results{impl.SpaceOk(in.a)} }, results{false}},
		{"SumSpaces", true, func(in input) results { return pair(impl.SumSpaces(in.a, in.b)) }, notMatrix},
		{"MeetSpaces", true, func(in input) results { return pair(impl.MeetSpaces(in.a, in.b)) }, notMatrix},
		{"CoordinatesIn", false, func(in input) results { return pair(impl.CoordinatesIn(in.a, in.v)) }, results{[]int(nil), false}},
		{"IsSubspace", true, func(in input) results { return results{impl.IsSubspace(in.a, in.b)} }, results{false}},
		{"ExpMatrix", false, func(in input) results { return pair(impl.ExpMatrix(in.a)) }, notMatrix},
	}
}

func pair[S any, T any](x S, y T) results { return results{x, y} }

// lists returns the slices inside of the results.
func (r results) lists() [][]int {
	var list [][]int
	for _, x := range r {
		switch y := x.(type) {
		case []int:
			list = append(list, y)
		case impl.Matrix:
			list = append(list, y.Data)
		case impl.Algebra:
			list = append(list, y.Table)
		case impl.Cartan:
			list = append(list, y.Data)
		case []impl.Matrix:
			for _, m := range y {
				list = append(list, m.Data)
			}
		case [][]int:
			list = append(list, y...)
		case []impl.Term:
			for _, term := range y {
				list = append(list, term.Weight)
			}
		}
	}
	for _, step := range slices.Concat(r.paths()...) {
		list = append(list, step.Way)
	}
	return list
}

// paths returns the paths inside of the results.
func (r results) paths() [][]impl.Step {
	var list [][]impl.Step
	for _, x := range r {
		switch y := x.(type) {
		case []impl.Step:
			list = append(list, y)
		case [][]impl.Step:
			list = append(list, y...)
		}
	}
	return list
}

// overwriteParts changes the counts and weights of lists of terms, and the steps of paths, and reports whether two of
// these lists or paths share memory.
func (r results) overwriteParts() bool {
	isShared := false
	for i, x := range r {
		l, _ := x.([]impl.Term)
		for j := range wholeTerms(l) {
			isShared = isShared || wholeTerms(l)[j].Count <= -1000
			wholeTerms(l)[j] = occurs(-1000-i, -7)
		}
	}
	for i, p := range r.paths() {
		for j := range wholePath(p) {
			isShared = isShared || wholePath(p)[j].Len <= -1000
			wholePath(p)[j] = goes(-1000-i, -7)
		}
	}
	return isShared
}

// clone also makes nil of empty slices, which are the same by the document.
func (r results) clone() results {
	copied := make(results, len(r))
	for i, x := range r {
		switch y := x.(type) {
		case []int:
			copied[i] = append([]int(nil), y...)
		case impl.Matrix:
			y.Data = append([]int(nil), y.Data...)
			copied[i] = y
		case impl.Algebra:
			y.Table = append([]int(nil), y.Table...)
			copied[i] = y
		case impl.Cartan:
			y.Data = append([]int(nil), y.Data...)
			copied[i] = y
		case []impl.Matrix:
			copied[i] = copyEach(y, func(m impl.Matrix) impl.Matrix {
				m.Data = append([]int(nil), m.Data...)
				return m
			})
		case [][]int:
			copied[i] = copyEach(y, func(v []int) []int { return append([]int(nil), v...) })
		case []impl.Term:
			copied[i] = copyEach(y, func(term impl.Term) impl.Term { return occurs(term.Count, append([]int(nil), term.Weight...)...) })
		case []impl.Step:
			copied[i] = copyPath(y)
		case [][]impl.Step:
			copied[i] = copyEach(y, copyPath)
		default:
			copied[i] = x
		}
	}
	return copied
}

func copyEach[T any](list []T, copyOne func(x T) T) []T { return mapEach(list, copyOne) }

func mapEach[S, T any](list []S, f func(x S) T) []T {
	var mapped []T
	for _, x := range list {
		mapped = append(mapped, f(x))
	}
	return mapped
}

func (r results) equal(s results) bool { return reflect.DeepEqual(r.clone(), s.clone()) }

// roomy returns v with room behind it, which has marks.
func roomy(v []int) []int {
	room := append(slices.Clone(v), 3, 1, 4, 1, 5, 9, 2, 6)
	return room[:len(v)]
}

func whole(v []int) []int { return v[:cap(v)] }

func (in input) roomy() input {
	in.a.Data, in.b.Data, in.v = roomy(in.a.Data), roomy(in.b.Data), roomy(in.v)
	return in
}

// memory returns copies of all the memory of the arguments, with the room.
func (in input) memory() [][]int {
	return [][]int{slices.Clone(whole(in.a.Data)), slices.Clone(whole(in.b.Data)), slices.Clone(whole(in.v))}
}

func (in input) overwrite() { scribble(in.a.Data, in.b.Data, in.v) }

func scribble(lists ...[]int) {
	for i, list := range lists {
		for j := range whole(list) {
			whole(list)[j] = -1000 - i
		}
	}
}

// validInputs has arguments for which functions succeed, and others for which they fail although they are valid.
func validInputs() []input {
	r := newRandom(20)
	list := []input{
		{matrixOf(5, 0, 0), matrixOf(5, 0, 0), nil, 2},
		{matrixOf(5, 2, 2, 1, 0, 0, 1), matrixOf(5, 1, 2, 1, 3), []int{2, 3}, -1},
		{matrixOf(5, 1, 3, 0, 1, 2), matrixOf(5, 1, 3, 0, 1, 2), []int{0, 2, 4}, 1},
		{matrixOf(7, 2, 2, 0, 1, 1, 0), matrixOf(7, 2, 2, 3, 1, 4, 1), []int{6, 0}, math.MinInt},
		{matrixOf(7, 2, 2, 0, 1, 0, 0), matrixOf(5, 2, 2, 0, 1, 0, 0), []int{0, 1}, 0},
		{impl.UnitMatrix(2, 40), impl.UnitMatrix(2, 40), make([]int, 40), 1},
		{matrixOf(3, 0, 4), matrixOf(3, 4, 0), nil, 3},
		{matrixOf(3, 2, 0), matrixOf(3, 0, 2), []int{0, 0}, 3},
	}
	for range 60 {
		p, n := somePrimes[r.IntN(len(somePrimes))], 1+r.IntN(6)
		square, other := randomMatrix(r, p, n, n), lowRank(r, p, n, n, n-1)
		a, b := impl.SpanOf(other), impl.SpanOf(randomMatrix(r, p, n/2, n))
		list = append(list,
			input{square, other, times(square, randomVector(r, p, n)), r.IntN(p)},
			input{other, square, randomVector(r, p, n), -r.IntN(p)},
			input{a, b, combine(a, randomVector(r, p, a.Rows)), 1})
	}
	return list
}

func TestFunctionsOfInvalidMatrices(t *testing.T) {
	good := []impl.Matrix{impl.UnitMatrix(5, 1), matrixOf(5, 0, 0), impl.UnitMatrix(5, 2), matrixOf(2, 1, 1, 1)}
	for _, call := range matrixCalls() {
		for _, bad := range invalidMatrices() {
			for _, v := range [][]int{nil, {0}, {0, 1}, {math.MinInt}} {
				checkFailure(t, call, input{bad, bad, v, 3})
				for _, other := range good {
					checkFailure(t, call, input{bad, other, v, 3})
					if call.two {
						checkFailure(t, call, input{other, bad, v, 3})
					}
				}
			}
		}
	}
}

func checkFailure(t *testing.T, call matrixCall, in input) {
	t.Helper()
	in = in.roomy()
	checkFailing(t, call.name, in, call.failure, func() results { return call.run(in) })
}

// arguments are those of any function of the program.
type arguments interface {
	memory() [][]int
	overwrite()
}

func checkFailing(t *testing.T, name string, in arguments, failure results, run func() results) {
	t.Helper()
	before := in.memory()
	if got := run(); !got.equal(failure) {
		t.Errorf("%s of %v: %v", name, in, got)
	}
	if !reflect.DeepEqual(in.memory(), before) {
		t.Errorf("%s has changed %v", name, in)
	}
}

// TestFunctionsOfAnything has all mixtures of sizes, among them the least and the greatest integers.
func TestFunctionsOfAnything(t *testing.T) {
	calls := matrixCalls()
	numbers := []int{math.MinInt, -1, 0, 1, 2, 4, 40, 41, 1 << 32, math.MaxInt}
	for _, p := range append(numbers, 3, 10007, 10009) {
		for _, rows := range numbers {
			for _, cols := range numbers {
				for _, data := range [][]int{nil, {0}, {1, 0}, {1, 2, 0, 1}, {math.MinInt, math.MaxInt}} {
					m := matrixOf(p, rows, cols, data...)
					if impl.MatrixOk(m) != validMatrix(m) {
						t.Error(m)
					}
					for _, call := range calls {
						got := call.run(input{m, m, data, rows})
						if !validMatrix(m) && !got.equal(call.failure) {
							t.Errorf("%s of %v: %v", call.name, m, got)
						}
					}
				}
			}
		}
	}
}

func TestArgumentsStayAndMemoryIsNew(t *testing.T) {
	for _, call := range matrixCalls() {
		for _, in := range validInputs() {
			once := in.roomy()
			checkMemory(t, call.name, once, func() results { return call.run(once) })
			twice := in.roomy()
			twice.b = twice.a
			checkMemory(t, call.name, twice, func() results { return call.run(twice) })
		}
	}
}

// checkMemory overwrites the arguments at its end.
func checkMemory(t *testing.T, name string, in arguments, run func() results) {
	t.Helper()
	before := in.memory()
	first, second := run(), run()
	kept := second.clone()
	if !first.equal(second) || !reflect.DeepEqual(in.memory(), before) {
		t.Fatalf("%s has changed %v, or gives %v and then %v", name, in, first, second)
	}
	lists := first.lists()
	scribble(lists...)
	for i, list := range lists {
		if slices.ContainsFunc(whole(list), func(x int) bool { return x != -1000-i }) {
			t.Errorf("%s of %v: two results share memory", name, in)
		}
	}
	if first.overwriteParts() {
		t.Errorf("%s of %v: two lists of terms or steps share memory", name, in)
	}
	if !reflect.DeepEqual(in.memory(), before) || !second.equal(kept) {
		t.Errorf("%s of %v: a result shares memory with an argument or another result", name, in)
	}
	in.overwrite()
	if !second.equal(kept) {
		t.Errorf("%s of %v: a result changes with an argument", name, in)
	}
}

// TestFailuresOfValidMatrices says that all functions that fail give zero values.
func TestFailuresOfValidMatrices(t *testing.T) {
	failed := map[string]bool{}
	for _, call := range matrixCalls() {
		for _, in := range validInputs() {
			got := call.run(in)
			if ok, two := got[len(got)-1].(bool); two && !ok {
				failed[call.name] = true
				if !got.equal(call.failure) {
					t.Errorf("%s of %v: %v", call.name, in, got)
				}
			}
		}
	}
	for _, name := range []string{"AddMatrices", "MulMatrices", "CommutatorOf", "TraceOf", "DeterminantOf", "SolveMatrix", "InverseMatrix", "SumSpaces", "MeetSpaces", "CoordinatesIn", "ExpMatrix"} {
		if !failed[name] {
			t.Error("no failure of", name)
		}
	}
}

// outcomes has the functions that have failed for something, and those that have not.
type outcomes struct{ failed, done map[string]bool }

func noOutcomes() outcomes { return outcomes{map[string]bool{}, map[string]bool{}} }

// note checks results of which the last one says whether the function has failed.
func (o outcomes) note(t *testing.T, name string, in arguments, got results, failure results) {
	t.Helper()
	ok, says := got[len(got)-1].(bool)
	if !says {
		return
	}
	if ok {
		o.done[name] = true
		return
	}
	o.failed[name] = true
	if !got.equal(failure) {
		t.Errorf("%s of %v: %v", name, in, got)
	}
}

// mustHaveBoth says that each of these functions has failed and has not.
func (o outcomes) mustHaveBoth(t *testing.T, names ...string) {
	t.Helper()
	for _, name := range names {
		if !o.failed[name] || !o.done[name] {
			t.Error(name, o.failed[name], o.done[name])
		}
	}
}

func TestNumbersStayAndMemoryIsNew(t *testing.T) {
	list := roomy([]int{5, -6, 7})
	before := slices.Clone(whole(list))
	if impl.FormatInts(list) != "5 -6 7" || !slices.Equal(whole(list), before) {
		t.Error(whole(list))
	}
	first, _ := impl.ParseInts("5 -6 7")
	second, _ := impl.ParseInts("5 -6 7")
	scribble(first)
	if !slices.Equal(second, []int{5, -6, 7}) {
		t.Error(second)
	}
	for _, make := range []func() impl.Matrix{
		func() impl.Matrix { return impl.ZeroMatrix(5, 2, 2) },
		func() impl.Matrix { return impl.UnitMatrix(5, 2) },
	} {
		first, second := make(), make()
		kept := slices.Clone(second.Data)
		scribble(first.Data)
		if !slices.Equal(second.Data, kept) || !slices.Equal(make().Data, kept) {
			t.Error(first, second)
		}
	}
}
