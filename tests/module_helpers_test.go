package tests

import (
	"math/rand/v2"
	"slices"
	"testing"

	"loop.example/g03109/impl"
)

// knownModule is an algebra with one of its modules.
type knownModule struct {
	a impl.Algebra
	m []impl.Matrix
}

func (k knownModule) size() int { return k.m[0].Rows }

func (k knownModule) all() impl.Matrix { return impl.UnitMatrix(k.a.P, k.size()) }

func (k knownModule) none() impl.Matrix { return matrixOf(k.a.P, 0, k.size()) }

// squares has matrices of this size.
func squares(p int, size int, data ...[]int) []impl.Matrix {
	return mapEach(data, func(v []int) impl.Matrix { return matrixOf(p, size, size, v...) })
}

func differenceOf(a impl.Matrix, b impl.Matrix) impl.Matrix {
	return matrixOf(a.P, a.Rows, a.Cols, plus(a.P, a.Data, multipleOf(a.P, -1, b.Data))...)
}

// moduleBy says by the document's words what IsModule must say.
func moduleBy(a impl.Algebra, m []impl.Matrix) bool {
	if !validAlgebra(a) || a.Dim == 0 || len(m) != a.Dim {
		return false
	}
	for _, x := range m {
		if !validMatrix(x) || x.P != a.P || x.Rows != x.Cols || x.Rows != m[0].Rows || x.Rows > 30 {
			return false
		}
	}
	for i := range m {
		for j := range m {
			if !sameMatrix(sumOfMatrices(m, tableEntry(a, i, j)), differenceOf(multiply(m[j], m[i]), multiply(m[i], m[j]))) {
				return false
			}
		}
	}
	return true
}

func adjointModuleBy(a impl.Algebra) []impl.Matrix {
	return mapEach(upTo(a.Dim), func(i int) impl.Matrix { return adjointBy(a, unitVector(a.Dim, i)) })
}

func zeroModuleBy(a impl.Algebra, n int) []impl.Matrix {
	return slices.Repeat([]impl.Matrix{constant(a.P, n, n, 0)}, a.Dim)
}

func dualBy(m []impl.Matrix) []impl.Matrix {
	return copyEach(m, func(x impl.Matrix) impl.Matrix {
		y := constant(x.P, x.Rows, x.Rows, 0)
		for i := range x.Rows {
			for j := range x.Rows {
				y.Data[i*x.Rows+j] = (x.P - at(x, j, i)) % x.P
			}
		}
		return y
	})
}

// eachPlace makes matrices of this size whose element in row i and column j is the residue of what number says of two
// matrices.
func eachPlace(m []impl.Matrix, n []impl.Matrix, size int, number func(x, y impl.Matrix, i, j int) int) []impl.Matrix {
	var list []impl.Matrix
	for k := range m {
		z := constant(m[k].P, size, size, 0)
		for i := range size {
			for j := range size {
				z.Data[i*size+j] = number(m[k], n[k], i, j) % z.P
			}
		}
		list = append(list, z)
	}
	return list
}

func sumBy(m []impl.Matrix, n []impl.Matrix) []impl.Matrix {
	first := m[0].Rows
	return eachPlace(m, n, first+n[0].Rows, func(x, y impl.Matrix, i, j int) int {
		switch {
		case i < first && j < first:
			return at(x, i, j)
		case i >= first && j >= first:
			return at(y, i-first, j-first)
		}
		return 0
	})
}

func tensorModuleBy(m []impl.Matrix, n []impl.Matrix) []impl.Matrix {
	size := n[0].Rows
	return eachPlace(m, n, m[0].Rows*size, func(x, y impl.Matrix, row, column int) int {
		sum := 0
		if row%size == column%size {
			sum += at(x, row/size, column/size)
		}
		if row/size == column/size {
			sum += at(y, row%size, column%size)
		}
		return sum
	})
}

// inBasis returns the module in a random basis.
func inBasis(r *rand.Rand, m []impl.Matrix) []impl.Matrix {
	left := invertible(r, m[0].P, m[0].Rows)
	right, _ := impl.InverseMatrix(left)
	return copyEach(m, func(x impl.Matrix) impl.Matrix { return multiply(multiply(left, x), right) })
}

// naturalModules has modules that are given by small matrices.
func naturalModules(r *rand.Rand, p int) []knownModule {
	line := algebraOf(p, 1, 0)
	list := []knownModule{
		{line, squares(p, 0, nil)}, {line, squares(p, 1, []int{p - 1})}, {line, squares(p, 2, []int{1, 1, 0, 1})}, {line, squares(p, 3, []int{0, 1, 0, 0, 0, 1, 0, 0, 0})},
		{line, []impl.Matrix{randomMatrix(r, p, 3, 3)}}, {line, []impl.Matrix{randomMatrix(r, p, 4, 4)}}, {line, []impl.Matrix{lowRank(r, p, 4, 4, 2)}},
		{withTerms(p, 2), squares(p, 2, []int{1, 0, 0, 0}, []int{0, 0, 0, 1})}, {withTerms(p, 2), squares(p, 3, []int{0, 1, 0, 0, 0, 0, 0, 0, 0}, []int{0, 0, 1, 0, 0, 0, 0, 0, 0})},
		{affine(p), squares(p, 1, []int{p - 1}, []int{0})}, {affine(p), squares(p, 2, []int{1, 0, 0, 0}, []int{0, 0, 1, 0})},
		{heisenberg(p), squares(p, 3, []int{0, 0, 0, 1, 0, 0, 0, 0, 0}, []int{0, 0, 0, 0, 0, 0, 0, 1, 0}, []int{0, 0, 0, 0, 0, 0, 1, 0, 0})},
		{special(p), squares(p, 2, []int{1, 0, 0, p - 1}, []int{0, 0, 1, 0}, []int{0, 1, 0, 0})},
	}
	// A matrix acts from the right as its transposed one.
	for n := 2; n <= 3; n++ {
		list = append(list, knownModule{general(p, n), dualBy(dualBy(copyEach(singles(p, n, upTo(n*n)...), impl.TransposeMatrix)))})
	}
	return list
}

// someModules has modules of many algebras, with their duals, sums and products.
func someModules(r *rand.Rand, p int) []knownModule {
	list := naturalModules(r, p)
	for _, a := range fewAlgebras(p) {
		if a.Dim > 0 {
			list = append(list, knownModule{a, adjointModuleBy(a)}, knownModule{a, zeroModuleBy(a, r.IntN(4))})
		}
	}
	for _, k := range slices.Clone(list) {
		list = append(list, knownModule{k.a, inBasis(r, dualBy(k.m))})
		if k.size() <= 3 {
			list = append(list, knownModule{k.a, inBasis(r, sumBy(k.m, dualBy(k.m)))})
		}
		if k.size() <= 2 {
			list = append(list, knownModule{k.a, tensorModuleBy(k.m, adjointModuleBy(k.a))})
		}
	}
	return list
}

func eachModule(seed uint64, f func(r *rand.Rand, k knownModule)) {
	r := newRandom(seed)
	for _, p := range []int{2, 3, 5, 101, 10007} {
		for _, k := range someModules(r, p) {
			f(r, k)
		}
	}
}

// eachTwoModules has two modules of each algebra.
func eachTwoModules(seed uint64, f func(r *rand.Rand, k knownModule, n []impl.Matrix)) {
	r := newRandom(seed)
	for _, p := range []int{2, 3, 5, 101, 10007} {
		list := someModules(r, p)
		for i, k := range list {
			others := slices.DeleteFunc(slices.Clone(list), func(other knownModule) bool { return !sameAlgebra(other.a, k.a) })
			f(r, k, others[r.IntN(len(others))].m)
			f(r, k, others[i%len(others)].m)
		}
	}
}

// noModules has lists that are no modules of special(101), with one flaw each.
func noModules() [][]impl.Matrix {
	natural := naturalModules(newRandom(1), 101)[12].m
	list := [][]impl.Matrix{nil, {}, natural[:2], natural[1:], slices.Concat(natural, natural[:1]), slices.Repeat(natural[:1], 3), {natural[0], natural[2], natural[1]}, dualBy(natural)[:2],
		zeroModuleBy(special(101), 31), zeroModuleBy(special(101), 40), zeroModuleBy(special(103), 2), zeroModuleBy(special(7), 0), naturalModules(newRandom(1), 103)[12].m}
	flaws := append(invalidMatrices(), constant(101, 2, 3, 0), constant(101, 3, 2, 0), constant(101, 1, 1, 0), constant(101, 3, 3, 0), matrixOf(101, 0, 0), constant(103, 2, 2, 0), constant(2, 2, 2, 0), constant(101, 1, 4, 0),
		matrixOf(101, 2, 2, 1, 0, 0, 101), matrixOf(101, 2, 2, 1, 0, 0, -1), matrixOf(101, 2, 2, 1, 0, 0), matrixOf(101, 2, 2, 1, 0, 0, 99), matrixOf(101, 2, 2, 2, 0, 0, 100))
	for place := range 3 {
		for _, flaw := range flaws {
			bad, zeros := slices.Clone(natural), zeroModuleBy(special(101), 2)
			bad[place], zeros[place] = flaw, flaw
			list = append(list, bad)
			if !sameMatrix(flaw, constant(101, 2, 2, 0)) {
				list = append(list, zeros)
			}
		}
		// All matrices have the same flaw.
		list = append(list, slices.Repeat([]impl.Matrix{flaws[place*7]}, 3))
	}
	return append(list, slices.Repeat([]impl.Matrix{constant(101, 2, 3, 0)}, 3), slices.Repeat([]impl.Matrix{constant(101, 3, 2, 0)}, 3), slices.Repeat([]impl.Matrix{{}}, 3))
}

// sl2Module has the basis v, f v, f f v, .. of n + 1 vectors, for the table of A1: e, h and f.
func sl2Module(p int, n int) []impl.Matrix {
	m := zeroModuleBy(impl.Algebra{P: p, Dim: 3}, n+1)
	m = copyEach(m, func(x impl.Matrix) impl.Matrix { return matrixOf(p, n+1, n+1, slices.Clone(x.Data)...) })
	for k := range n + 1 {
		m[1].Data[k*(n+1)+k] = impl.Residue(n-2*k, p)
		if k > 0 {
			m[0].Data[k*(n+1)+k-1] = impl.Residue(k*(n-k+1), p)
			m[2].Data[(k-1)*(n+1)+k] = 1
		}
	}
	return m
}

// mustSolutions reports a list that is no space in reduced form, or has not just the solutions of the equations; it changes
// these.
func mustSolutions(t *testing.T, what any, p int, width int, list [][]int, equations [][]int) {
	t.Helper()
	for _, v := range list {
		if slices.ContainsFunc(equations, func(e []int) bool { return dotted(e, v)%p != 0 }) {
			t.Fatalf("%v: %v is no solution", what, v)
		}
	}
	if want := width - rankBy(p, equations); len(list) != want || !spaceByDefinition(matrixOf(p, len(list), width, slices.Concat(list...)...)) {
		t.Errorf("%v: %v has not %d solutions in reduced form", what, list, want)
	}
}

func rowsOf(m impl.Matrix) [][]int {
	return mapEach(upTo(m.Rows), func(i int) []int { return row(m, i) })
}
