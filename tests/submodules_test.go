package tests

import (
	"math"
	"math/rand/v2"
	"slices"
	"testing"

	"loop.example/g03109/impl"
)

func contains(s impl.Matrix, v []int) bool {
	_, ok := impl.CoordinatesIn(s, v)
	return ok
}

// keeps says by the definition whether s contains what each basis element makes of each of its rows.
func (k knownModule) keeps(s impl.Matrix) bool {
	for _, x := range k.m {
		for _, v := range rowsOf(s) {
			if !contains(s, combine(x, v)) {
				return false
			}
		}
	}
	return true
}

// closure takes one vector after the other into the space of the rows.
func (k knownModule) closure(rows impl.Matrix) impl.Matrix {
	s := impl.SpanOf(rows)
	for i := 0; i < s.Rows; i++ {
		for _, x := range k.m {
			if v := combine(x, row(s, i)); !contains(s, v) {
				s = impl.SpanOf(matrixOf(s.P, s.Rows+1, s.Cols, slices.Concat(s.Data, v)...))
				i = -1
				break
			}
		}
	}
	return s
}

// eachSpace has spaces of vectors of modules: all of them for small ones, submodules and others.
func eachSpace(seed uint64, f func(r *rand.Rand, k knownModule, s impl.Matrix)) {
	eachModule(seed, func(r *rand.Rand, k knownModule) {
		if k.size() > 6 {
			return
		}
		spaces := []impl.Matrix{k.none(), k.all()}
		if k.a.P < 5 {
			spaces = spacesOf(r, k.a.P, k.size())
		}
		for range 6 {
			spaces = append(spaces, k.closure(randomMatrix(r, k.a.P, 1, k.size())), impl.SpanOf(randomMatrix(r, k.a.P, 1+r.IntN(3), k.size())))
		}
		for _, x := range k.m {
			spaces = append(spaces, k.closure(impl.SpanOf(x)), impl.KernelOf(impl.TransposeMatrix(x)))
		}
		for _, s := range spaces {
			f(r, k, s)
		}
	})
}

func TestSubmodules(t *testing.T) {
	counts := map[bool]int{}
	eachSpace(1010, func(r *rand.Rand, k knownModule, s impl.Matrix) {
		want := k.keeps(s)
		if got := impl.IsSubmodule(k.a, k.m, s); got != want {
			t.Error(k, s, got)
		}
		if s.Rows > 0 && s.Rows < k.size() {
			counts[want]++
		}
	})
	if counts[true] < 400 || counts[false] < 400 {
		t.Error(counts)
	}
}

func TestLeastSubmodules(t *testing.T) {
	between := 0
	eachModule(1011, func(r *rand.Rand, k knownModule) {
		for n := range 4 {
			rows := lowRank(r, k.a.P, n, k.size(), 1+n/2)
			if n == 3 && k.size() > 0 {
				rows = matrixOf(k.a.P, 1, k.size(), unitVector(k.size(), r.IntN(k.size()))...)
			}
			got, ok := impl.SubmoduleBy(k.a, k.m, rows)
			mustMatrix(t, "submodule", got, ok && impl.IsSubmodule(k.a, k.m, got), k.closure(rows))
			if got.Rows > 0 && got.Rows < k.size() {
				between++
			}
			again, ok := impl.SubmoduleBy(k.a, k.m, got)
			mustMatrix(t, "again", again, ok, got)
		}
	})
	if between < 200 {
		t.Error(between)
	}
}

// TestLeastOfAllSubmodules compares with all submodules of a module.
func TestLeastOfAllSubmodules(t *testing.T) {
	r := newRandom(1012)
	for _, k := range slices.Concat(someModules(r, 2), someModules(r, 3)) {
		if k.size() > 3 || k.size() > 2 && k.a.P > 2 {
			continue
		}
		spaces := allSpaces(k.a.P, k.size())
		for _, rows := range spaces {
			got, ok := impl.SubmoduleBy(k.a, k.m, rows)
			if !ok || !k.keeps(got) || !impl.IsSubspace(rows, got) {
				t.Error(k, rows, got)
			}
			for _, s := range spaces {
				if impl.IsSubspace(rows, s) && k.keeps(s) && !impl.IsSubspace(got, s) {
					t.Error(k, rows, got, s)
				}
			}
		}
	}
}

// checkRestriction says that the basis elements make of the rows of s what they make of these in the module.
func checkRestriction(t *testing.T, k knownModule, s impl.Matrix, n []impl.Matrix) {
	t.Helper()
	if len(n) != k.a.Dim || !impl.IsModule(k.a, n) || n[0].Rows != s.Rows {
		t.Fatal(k, s, n)
	}
	for i, x := range k.m {
		if !sameMatrix(multiply(n[i], s), multiply(s, x)) {
			t.Error(k, s, n)
		}
	}
}

// checkQuotient says that what basis elements make of unit vectors differs by elements of s from what the result says.
func (k knownModule) checkQuotient(t *testing.T, s impl.Matrix, n []impl.Matrix) {
	t.Helper()
	_, pivots := impl.ReduceMatrix(s)
	free := slices.DeleteFunc(upTo(k.size()), func(c int) bool { return slices.Contains(pivots, c) })
	if len(n) != k.a.Dim || !impl.IsModule(k.a, n) || n[0].Rows != len(free) {
		t.Fatal(k, s, n)
	}
	for i, x := range k.m {
		for r, c := range free {
			v := slices.Clone(row(x, c))
			for j, d := range free {
				v[d] = impl.Residue(v[d]-at(n[i], r, j), k.a.P)
			}
			if !contains(s, v) {
				t.Error(k, s, n)
			}
		}
	}
}

func TestRestrictionsAndQuotients(t *testing.T) {
	eachSpace(1013, func(r *rand.Rand, k knownModule, s impl.Matrix) {
		n, ok := impl.RestrictTo(k.a, k.m, s)
		q, fine := impl.QuotientModule(k.a, k.m, s)
		if !k.keeps(s) {
			mustNoModule(t, "restriction", n, ok)
			mustNoModule(t, "quotient", q, fine)
			return
		}
		if !ok || !fine {
			t.Fatal(k, s)
		}
		checkRestriction(t, k, s, n)
		k.checkQuotient(t, s, q)
		// Restrictions of the dual module are duals of quotients: its vectors that are 0 on s.
		others := impl.KernelOf(s)
		dual, ok := impl.RestrictTo(k.a, dualBy(k.m), others)
		if !ok || len(dual) != len(q) || dual[0].Rows != q[0].Rows {
			t.Error(k, s, dual)
		}
	})
}

func TestSubmodulesWithoutAndWithAll(t *testing.T) {
	eachModule(1014, func(r *rand.Rand, k knownModule) {
		for _, s := range []impl.Matrix{k.none(), k.all()} {
			if !impl.IsSubmodule(k.a, k.m, s) {
				t.Error(k, s)
			}
			got, ok := impl.SubmoduleBy(k.a, k.m, s)
			mustMatrix(t, "submodule", got, ok, s)
		}
		empty := zeroModuleBy(k.a, 0)
		got, ok := impl.RestrictTo(k.a, k.m, k.all())
		mustModule(t, "all", k.a, got, ok, k.m)
		got, ok = impl.RestrictTo(k.a, k.m, k.none())
		mustModule(t, "none", k.a, got, ok, empty)
		got, ok = impl.QuotientModule(k.a, k.m, k.none())
		mustModule(t, "by none", k.a, got, ok, k.m)
		got, ok = impl.QuotientModule(k.a, k.m, k.all())
		mustModule(t, "by all", k.a, got, ok, empty)
	})
}

func TestExamplesOfSubmodules(t *testing.T) {
	a := affine(7)
	// The basis element 1 takes the vector 1 0 0 to 0 2 3 and the vector 0 0 1 to 0; the other one multiplies them by 1 and 2.
	m := squares(7, 3, []int{1, 0, 0, 0, 2, 0, 0, 0, 2}, []int{0, 2, 3, 0, 0, 0, 0, 0, 0})
	line := matrixOf(7, 1, 3, 0, 1, 5)
	got, ok := impl.SubmoduleBy(a, m, matrixOf(7, 1, 3, 3, 0, 0))
	mustMatrix(t, "by 1 0 0", got, ok, matrixOf(7, 2, 3, 1, 0, 0, 0, 1, 5))
	got, ok = impl.SubmoduleBy(a, m, matrixOf(7, 2, 3, 0, 2, 3, 0, 4, 6))
	mustMatrix(t, "by 0 2 3", got, ok, line)
	if !impl.IsSubmodule(a, m, line) || impl.IsSubmodule(a, m, matrixOf(7, 1, 3, 1, 0, 0)) || impl.IsSubmodule(a, m, matrixOf(7, 2, 3, 1, 0, 0, 0, 1, 0)) {
		t.Error("submodules")
	}
	n, ok := impl.RestrictTo(a, m, line)
	mustModule(t, "line", a, n, ok, squares(7, 1, []int{2}, []int{0}))
	// The classes of 1 0 0 and 0 0 1 remain, and that of 0 2 3 is 0.
	n, ok = impl.QuotientModule(a, m, line)
	mustModule(t, "by the line", a, n, ok, squares(7, 2, []int{1, 0, 0, 2}, []int{0, 0, 0, 0}))
	plane := matrixOf(7, 1, 3, 0, 1, 0)
	n, ok = impl.QuotientModule(a, m, plane)
	mustModule(t, "by 0 1 0", a, n, ok, squares(7, 2, []int{1, 0, 0, 2}, []int{0, 3, 0, 0}))
	n, ok = impl.RestrictTo(a, m, matrixOf(7, 2, 3, 1, 0, 0, 0, 1, 5))
	mustModule(t, "plane", a, n, ok, squares(7, 2, []int{1, 0, 0, 2}, []int{0, 2, 0, 0}))
	for _, e := range []struct {
		elements []int
		want     impl.Matrix
	}{
		{nil, impl.UnitMatrix(7, 3)}, {[]int{1}, matrixOf(7, 2, 3, 0, 1, 0, 0, 0, 1)}, {[]int{1, 1, 1}, matrixOf(7, 2, 3, 0, 1, 0, 0, 0, 1)}, {[]int{0}, matrixOf(7, 0, 3)}, {[]int{1, 0}, matrixOf(7, 0, 3)},
	} {
		got, ok = impl.KilledBy(a, m, e.elements)
		mustMatrix(t, "killed", got, ok, e.want)
	}
	// The rows of a matrix count, not its columns.
	got, ok = impl.KilledBy(a, squares(7, 2, []int{1, 0, 0, 0}, []int{0, 0, 1, 0}), []int{1})
	mustMatrix(t, "killed", got, ok, matrixOf(7, 1, 2, 1, 0))
}

// TestRowsThatGenerateSubmodules says that SubmoduleBy takes any valid matrix, of up to 40 rows.
func TestRowsThatGenerateSubmodules(t *testing.T) {
	a := heisenberg(5)
	m := adjointModuleBy(a)
	for _, c := range []struct{ rows, want impl.Matrix }{
		{matrixOf(5, 0, 3), matrixOf(5, 0, 3)}, {matrixOf(5, 1, 3, 0, 0, 0), matrixOf(5, 0, 3)}, {matrixOf(5, 1, 3, 3, 0, 0), matrixOf(5, 2, 3, 1, 0, 0, 0, 0, 1)},
		{constant(5, 40, 3, 2), matrixOf(5, 2, 3, 1, 1, 0, 0, 0, 1)}, {constant(5, 40, 3, 0), matrixOf(5, 0, 3)}, {matrixOf(5, 2, 3, 0, 0, 2, 0, 0, 3), matrixOf(5, 1, 3, 0, 0, 1)},
	} {
		got, ok := impl.SubmoduleBy(a, m, c.rows)
		mustMatrix(t, "submodule", got, ok, c.want)
	}
	for _, rows := range append(invalidMatrices(), constant(5, 41, 3, 0), matrixOf(7, 1, 3, 1, 0, 0), matrixOf(5, 1, 2, 1, 0), matrixOf(5, 1, 4, 1, 0, 0, 0), matrixOf(7, 0, 3), matrixOf(5, 0, 2), matrixOf(5, 0, 4), matrixOf(5, 0, 0), matrixOf(5, 3, 0)) {
		got, ok := impl.SubmoduleBy(a, m, rows)
		mustFail(t, "rows", got, ok)
	}
	line, empty := algebraOf(5, 1, 0), squares(5, 0, nil)
	for rows := range 42 {
		got, ok := impl.SubmoduleBy(line, empty, matrixOf(5, rows, 0))
		if rows <= 40 {
			mustMatrix(t, "size 0", got, ok, matrixOf(5, 0, 0))
		} else {
			mustFail(t, "size 0", got, ok)
		}
	}
	if !impl.IsSubmodule(line, empty, matrixOf(5, 0, 0)) || impl.IsSubmodule(line, empty, matrixOf(5, 1, 0)) || impl.IsSubmodule(line, empty, matrixOf(7, 0, 0)) || impl.IsSubmodule(line, empty, matrixOf(5, 0, 1)) {
		t.Error("size 0")
	}
}

func TestSubmodulesThatAreNone(t *testing.T) {
	a := heisenberg(5)
	for _, m := range [][]impl.Matrix{adjointModuleBy(a), zeroModuleBy(a, 3)} {
		for _, s := range noSubspaces() {
			if impl.IsSubmodule(a, m, s) {
				t.Error(s)
			}
			n, ok := impl.RestrictTo(a, m, s)
			mustNoModule(t, s, n, ok)
			n, ok = impl.QuotientModule(a, m, s)
			mustNoModule(t, s, n, ok)
		}
	}
	b := special(101)
	for _, m := range noModules() {
		for _, s := range []impl.Matrix{matrixOf(101, 0, 2), impl.UnitMatrix(101, 2), matrixOf(101, 0, 0), matrixOf(101, 0, 3), impl.UnitMatrix(101, 31), {}} {
			if impl.IsSubmodule(b, m, s) {
				t.Error(m, s)
			}
			x, ok := impl.SubmoduleBy(b, m, s)
			mustFail(t, "submodule", x, ok)
			n, ok := impl.RestrictTo(b, m, s)
			mustNoModule(t, s, n, ok)
			n, ok = impl.QuotientModule(b, m, s)
			mustNoModule(t, s, n, ok)
		}
		x, ok := impl.KilledBy(b, m, nil)
		mustFail(t, "killed", x, ok)
		x, ok = impl.KilledBy(b, m, []int{0})
		mustFail(t, "killed", x, ok)
	}
}

func TestKilledVectors(t *testing.T) {
	between := 0
	eachModule(1015, func(r *rand.Rand, k knownModule) {
		for range 4 {
			elements := randomVector(r, k.a.Dim, r.IntN(4))
			var equations [][]int
			for _, i := range elements {
				equations = append(equations, rowsOf(impl.TransposeMatrix(k.m[i]))...)
			}
			got, ok := impl.KilledBy(k.a, k.m, elements)
			if !ok || got.P != k.a.P || got.Cols != k.size() {
				t.Fatal(k, elements, got, ok)
			}
			if got.Rows > 0 && got.Rows < got.Cols {
				between++
			}
			mustSolutions(t, "killed", k.a.P, k.size(), rowsOf(got), equations)
		}
	})
	if between < 300 {
		t.Error(between)
	}
}

// TestKilledOfSmall asks for all vectors.
func TestKilledOfSmall(t *testing.T) {
	r := newRandom(1016)
	for _, k := range slices.Concat(someModules(r, 2), someModules(r, 3), someModules(r, 5)) {
		if k.size() > 4 {
			continue
		}
		for i := range k.a.Dim {
			j := r.IntN(k.a.Dim)
			got, ok := impl.KilledBy(k.a, k.m, []int{i, j})
			if !ok {
				t.Fatal(k)
			}
			for _, v := range allVectors(k.a.P, k.size()) {
				if contains(got, v) != (zeroVector(combine(k.m[i], v)) && zeroVector(combine(k.m[j], v))) {
					t.Error(k, i, j, v)
				}
			}
		}
	}
}

func TestElementsThatAreNotThere(t *testing.T) {
	a := special(101)
	m := zeroModuleBy(a, 2)
	for _, i := range []int{-1, 3, 4, -101, 101, math.MinInt, math.MaxInt, 1 << 32} {
		for _, elements := range [][]int{{i}, {0, i}, {i, 0}, {0, 1, 2, i, 1}} {
			got, ok := impl.KilledBy(a, m, elements)
			mustFail(t, "not there", got, ok)
		}
	}
	// A list may be long.
	got, ok := impl.KilledBy(a, m, slices.Repeat(upTo(3), 100000))
	mustMatrix(t, "long", got, ok, impl.UnitMatrix(101, 2))
	got, ok = impl.KilledBy(a, m, append(slices.Repeat(upTo(3), 1000), 3))
	mustFail(t, "long", got, ok)
}
