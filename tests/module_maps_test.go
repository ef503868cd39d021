package tests

import (
	"math/rand/v2"
	"slices"
	"testing"

	"loop.example/g03109/impl"
)

// mapEquations says of all matrices f, row by row, that m[i] f is f n[i].
func mapEquations(m []impl.Matrix, n []impl.Matrix) [][]int {
	var equations [][]int
	rows, cols, p := m[0].Rows, n[0].Rows, m[0].P
	for i := range m {
		for r := range rows {
			for c := range cols {
				e := make([]int, rows*cols)
				for k := range rows {
					e[k*cols+c] += at(m[i], r, k)
				}
				for k := range cols {
					e[r*cols+k] -= at(n[i], k, c)
				}
				equations = append(equations, residues(e, p))
			}
		}
	}
	return equations
}

func TestMapsBetweenModules(t *testing.T) {
	some, none := 0, 0
	check := func(a impl.Algebra, m []impl.Matrix, n []impl.Matrix) {
		got := impl.MapsBetween(a, m, n)
		width := m[0].Rows * n[0].Rows
		mustSolutions(t, "maps", a.P, width, got, mapEquations(m, n))
		if len(got) > 0 {
			some++
		} else if width > 0 {
			none++
		}
		for _, f := range got {
			x := matrixOf(a.P, m[0].Rows, n[0].Rows, f...)
			for i := range m {
				if !sameMatrix(multiply(m[i], x), multiply(x, n[i])) {
					t.Error(a, m, n, f)
				}
			}
		}
	}
	eachTwoModules(1020, func(r *rand.Rand, k knownModule, n []impl.Matrix) {
		check(k.a, k.m, n)
		check(k.a, n, k.m)
		check(k.a, k.m, inBasis(r, k.m))
	})
	if some < 2000 || none < 500 {
		t.Error(some, none)
	}
}

// TestMapsOfSmall tries all matrices.
func TestMapsOfSmall(t *testing.T) {
	eachTwoModules(1021, func(r *rand.Rand, k knownModule, n []impl.Matrix) {
		rows, cols := k.size(), n[0].Rows
		if k.a.P > 3 || rows*cols > 6 {
			return
		}
		list := impl.MapsBetween(k.a, k.m, n)
		space := matrixOf(k.a.P, len(list), rows*cols, slices.Concat(list...)...)
		for _, f := range allVectors(k.a.P, rows*cols) {
			x := matrixOf(k.a.P, rows, cols, f...)
			isMap := true
			for i := range k.m {
				isMap = isMap && sameMatrix(multiply(k.m[i], x), multiply(x, n[i]))
			}
			if contains(space, f) != isMap {
				t.Error(k, n, f)
			}
		}
	})
}

func TestExamplesOfMaps(t *testing.T) {
	a := affine(7)
	m, n := squares(7, 2, []int{1, 0, 0, 0}, []int{0, 0, 1, 0}), squares(7, 1, []int{1}, []int{0})
	mustLists(t, "to the quotient", impl.MapsBetween(a, m, n), nil)
	mustLists(t, "from a submodule", impl.MapsBetween(a, n, m), [][]int{{1, 0}})
	mustLists(t, "to itself", impl.MapsBetween(a, m, m), [][]int{{1, 0, 0, 1}})
	zero := squares(7, 1, []int{0}, []int{0})
	mustLists(t, "to the quotient", impl.MapsBetween(a, m, zero), [][]int{{0, 1}})
	mustLists(t, "from no submodule", impl.MapsBetween(a, zero, m), nil)
	line := algebraOf(7, 1, 0)
	mustLists(t, "one block", impl.MapsBetween(line, squares(7, 2, []int{1, 1, 0, 1}), squares(7, 2, []int{1, 1, 0, 1})), [][]int{{1, 0, 0, 1}, {0, 1, 0, 0}})
	mustLists(t, "two blocks", impl.MapsBetween(line, squares(7, 2, []int{1, 1, 0, 1}), squares(7, 2, []int{2, 1, 0, 2})), nil)
	mustLists(t, "into a larger one", impl.MapsBetween(line, squares(7, 1, []int{1}), squares(7, 3, []int{1, 0, 0, 0, 2, 0, 0, 0, 1})), [][]int{{1, 0, 0}, {0, 0, 1}})
}

// TestSizesOfMaps has products of sizes that are MaxMaps, and above.
func TestSizesOfMaps(t *testing.T) {
	for _, a := range []impl.Algebra{algebraOf(2, 1, 0), affine(10007), withTerms(5, 28)} {
		for _, size := range [][2]int{{0, 0}, {0, 30}, {30, 0}, {1, 1}, {1, 30}, {2, 30}, {30, 2}, {4, 16}, {16, 4}, {7, 9}, {8, 8}, {3, 21}, {21, 3}, {5, 13}, {13, 5}, {8, 9}, {9, 8}, {3, 22}, {22, 3}, {30, 3}, {3, 30}, {30, 30}, {11, 6}, {6, 11}} {
			want := size[0] * size[1]
			if want > 64 {
				want = 0
			}
			got := impl.MapsBetween(a, zeroModuleBy(a, size[0]), zeroModuleBy(a, size[1]))
			mustLists(t, "zeros", got, rowsOf(unitRows(a.P, want, upTo(want)...)))
		}
	}
}

func TestMapsOfNoModules(t *testing.T) {
	a := special(101)
	good := zeroModuleBy(a, 2)
	for _, m := range noModules() {
		mustLists(t, "first", impl.MapsBetween(a, m, good), nil)
		mustLists(t, "second", impl.MapsBetween(a, good, m), nil)
		mustLists(t, "both", impl.MapsBetween(a, m, m), nil)
	}
	mustLists(t, "dimension 0", impl.MapsBetween(algebraOf(5, 0), nil, nil), nil)
}

// casimirBy sums over all i and j.
func casimirBy(a impl.Algebra, m []impl.Matrix) (impl.Matrix, bool) {
	back, ok := impl.InverseMatrix(killingBy(a))
	sum := constant(a.P, m[0].Rows, m[0].Rows, 0)
	for i := range back.Rows {
		for j := range back.Cols {
			sum.Data = plus(a.P, sum.Data, multipleOf(a.P, at(back, i, j), multiply(m[i], m[j]).Data))
		}
	}
	return sum, ok
}

func TestCasimirOfModules(t *testing.T) {
	done, failed := 0, 0
	eachModule(1022, func(r *rand.Rand, k knownModule) {
		want, can := casimirBy(k.a, k.m)
		got, ok := impl.CasimirOf(k.a, k.m)
		if !can {
			failed++
			mustFail(t, "no inverse", got, ok)
			return
		}
		done++
		mustMatrix(t, "sum", got, ok, want)
		for _, x := range k.m {
			if !sameMatrix(multiply(got, x), multiply(x, got)) {
				t.Error(k, got)
			}
		}
	})
	if done < 10 || failed < 100 {
		t.Error(done, failed)
	}
}

// TestCasimirInBases says that the result does not depend on the basis of the algebra.
func TestCasimirInBases(t *testing.T) {
	r := newRandom(1023)
	for _, p := range []int{5, 101, 10007} {
		for _, k := range []knownModule{{special(p), sl2Module(p, 2)}, {special(p), adjointModuleBy(special(p))}, {special(p), naturalModules(r, p)[12].m}, {sumOf(special(p), special(p)), adjointModuleBy(sumOf(special(p), special(p)))}, {traceless(p, 3), adjointModuleBy(traceless(p, 3))}} {
			if !impl.IsModule(k.a, k.m) {
				continue
			}
			m := invertible(r, p, k.a.Dim)
			back, _ := impl.InverseMatrix(m)
			a := rebased(k.a, m, back)
			list := mapEach(rowsOf(m), func(x []int) impl.Matrix { return sumOfMatrices(k.m, x) })
			want, can := casimirBy(k.a, k.m)
			got, ok := impl.CasimirOf(k.a, k.m)
			mustMatrix(t, "in one basis", got, ok && can, want)
			got, ok = impl.CasimirOf(a, list)
			mustMatrix(t, "in another one", got, ok, want)
		}
	}
}

func TestExamplesOfCasimir(t *testing.T) {
	a := special(7)
	// 3/8 and 1 are those of the natural and the adjoint module.
	got, ok := impl.CasimirOf(a, naturalModules(newRandom(1), 7)[12].m)
	mustMatrix(t, "natural", got, ok, matrixOf(7, 2, 2, 3, 0, 0, 3))
	got, ok = impl.CasimirOf(a, adjointModuleBy(a))
	mustMatrix(t, "adjoint", got, ok, impl.UnitMatrix(7, 3))
	got, ok = impl.CasimirOf(a, zeroModuleBy(a, 2))
	mustMatrix(t, "zeros", got, ok, constant(7, 2, 2, 0))
	got, ok = impl.CasimirOf(a, zeroModuleBy(a, 0))
	mustMatrix(t, "size 0", got, ok, matrixOf(7, 0, 0))
	for _, a := range []impl.Algebra{special(2), heisenberg(7), affine(7), algebraOf(7, 1, 0), general(7, 2), traceless(3, 3), withTerms(2, 28)} {
		got, ok = impl.CasimirOf(a, zeroModuleBy(a, 1))
		mustFail(t, "no inverse", got, ok)
	}
	got, ok = impl.CasimirOf(algebraOf(7, 0), nil)
	mustFail(t, "dimension 0", got, ok)
	for _, m := range noModules() {
		got, ok = impl.CasimirOf(special(101), m)
		mustFail(t, "no module", got, ok)
	}
}
