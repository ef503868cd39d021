package tests

import (
	"math"
	"math/rand/v2"
	"slices"
	"testing"

	"loop.example/g03109/impl"
)

func checkModule(t *testing.T, a impl.Algebra, m []impl.Matrix) bool {
	t.Helper()
	want := moduleBy(a, m)
	if got := impl.IsModule(a, m); got != want {
		t.Errorf("%v %v: %v", a, m, got)
	}
	return want
}

// TestModulesOfSmall tries all lists of matrices of a size, as far as there are few, and random ones besides.
func TestModulesOfSmall(t *testing.T) {
	for _, a := range []impl.Algebra{algebraOf(2, 1, 0), algebraOf(3, 1, 0), algebraOf(5, 1, 0), withTerms(2, 2), withTerms(3, 2), affine(2), affine(3), heisenberg(2), special(2), withTerms(2, 3, term{0, 1, 1, 1})} {
		counts := map[bool]int{}
		for size := range 3 {
			for _, data := range allVectors(a.P, a.Dim*size*size) {
				var m []impl.Matrix
				for i := range a.Dim {
					m = append(m, matrixOf(a.P, size, size, data[i*size*size:(i+1)*size*size]...))
				}
				counts[checkModule(t, a, m)]++
			}
		}
		if counts[true] < 19 || counts[false] == 0 && a.Dim > 1 {
			t.Error(a, counts)
		}
	}
}

func TestModules(t *testing.T) {
	counts := map[bool]int{}
	eachModule(1000, func(r *rand.Rand, k knownModule) {
		if !checkModule(t, k.a, k.m) {
			t.Error("no module", k)
		}
		if k.size() == 0 {
			return
		}
		// One number is another one.
		m := copyEach(k.m, func(x impl.Matrix) impl.Matrix { x.Data = slices.Clone(x.Data); return x })
		data := m[r.IntN(len(m))].Data
		i := r.IntN(len(data))
		data[i] = (data[i] + 1 + r.IntN(k.a.P-1)) % k.a.P
		counts[checkModule(t, k.a, m)]++
		// It is one of the opposite algebra.
		checkModule(t, k.a, copyEach(k.m, impl.TransposeMatrix))
	})
	if counts[true] < 30 || counts[false] < 100 {
		t.Error(counts)
	}
}

// TestLargeModules has the greatest size and one more, and the greatest dimension.
func TestLargeModules(t *testing.T) {
	for _, a := range []impl.Algebra{algebraOf(2, 1, 0), affine(10007), withTerms(3, 28), general(5, 5)} {
		for _, size := range []int{29, 30, 31, 39, 40, 41} {
			if got := impl.IsModule(a, zeroModuleBy(a, size)); got != (size <= 30) {
				t.Error(a.Dim, size, got)
			}
		}
		if !impl.IsModule(a, adjointModuleBy(a)) {
			t.Error(a.Dim)
		}
	}
	r := newRandom(1001)
	a := general(10007, 5)
	m := inBasis(r, tensorModuleBy(copyEach(singles(10007, 5, upTo(25)...), impl.TransposeMatrix), zeroModuleBy(a, 6)))
	if !impl.IsModule(a, m) {
		t.Error("size 30, dimension 25")
	}
	m[24].Data[899] = (m[24].Data[899] + 1) % 10007
	if impl.IsModule(a, m) {
		t.Error("another number")
	}
}

func TestListsThatAreNoModules(t *testing.T) {
	a := special(101)
	for _, m := range noModules() {
		if impl.IsModule(a, m) || moduleBy(a, m) {
			t.Error(m)
		}
	}
	for _, m := range [][]impl.Matrix{nil, {}, squares(5, 0, nil), squares(5, 1, []int{0})} {
		if impl.IsModule(algebraOf(5, 0), m) {
			t.Error("dimension 0", m)
		}
	}
	for _, a := range algebrasWithFlaws() {
		for _, n := range []int{0, 1, 2, 28, 29} {
			if impl.IsModule(a, slices.Repeat([]impl.Matrix{constant(a.P, 1, 1, 0)}, n)) {
				t.Error(a, n)
			}
		}
	}
}

func TestMatricesOfElements(t *testing.T) {
	eachModule(1002, func(r *rand.Rand, k knownModule) {
		x, y := randomVector(r, k.a.P, k.a.Dim), randomVector(r, k.a.P, k.a.Dim)
		got, ok := impl.MatrixOf(k.a, k.m, x)
		mustMatrix(t, "random", got, ok, sumOfMatrices(k.m, x))
		other, ok := impl.MatrixOf(k.a, k.m, y)
		mustMatrix(t, "random", other, ok, sumOfMatrices(k.m, y))
		bracket, ok := impl.MatrixOf(k.a, k.m, bracketBy(k.a, x, y))
		mustMatrix(t, "bracket", bracket, ok, differenceOf(multiply(other, got), multiply(got, other)))
		i := r.IntN(k.a.Dim)
		got, ok = impl.MatrixOf(k.a, k.m, unitVector(k.a.Dim, i))
		mustMatrix(t, "basis element", got, ok, k.m[i])
		got, ok = impl.MatrixOf(k.a, k.m, make([]int, k.a.Dim))
		mustMatrix(t, "0", got, ok, constant(k.a.P, k.size(), k.size(), 0))
	})
	k := naturalModules(newRandom(1), 101)[12]
	for _, x := range [][]int{nil, {}, {1}, {1, 0}, {1, 0, 0, 0}, {101, 0, 0}, {0, -1, 0}, {0, 0, math.MinInt}, {0, 0, math.MaxInt}} {
		got, ok := impl.MatrixOf(k.a, k.m, x)
		mustFail(t, "no element", got, ok)
	}
	for _, m := range noModules() {
		got, ok := impl.MatrixOf(k.a, m, []int{1, 0, 0})
		mustFail(t, "no module", got, ok)
	}
}

func TestAdjointModules(t *testing.T) {
	eachAlgebra(1003, func(r *rand.Rand, a impl.Algebra) {
		m := impl.AdjointModule(a)
		mustList(t, m, adjointModuleBy(a)...)
		if impl.IsModule(a, m) != (a.Dim > 0) {
			t.Error(a, m)
		}
	})
	for _, table := range smallTables() {
		if table.c.Rank < 3 || table.dim() > 26 {
			a := table.table(7)
			m := impl.AdjointModule(a)
			mustList(t, m, adjointModuleBy(a)...)
			if !impl.IsModule(a, m) {
				t.Error(table.name())
			}
		}
	}
	for _, a := range algebrasWithFlaws() {
		mustList(t, impl.AdjointModule(a))
	}
}

func TestZeroModules(t *testing.T) {
	eachAlgebra(1004, func(r *rand.Rand, a impl.Algebra) {
		for _, n := range []int{0, 1, 2, 29, 30} {
			m := impl.ZeroModule(a, n)
			mustList(t, m, zeroModuleBy(a, n)...)
			if impl.IsModule(a, m) != (a.Dim > 0) {
				t.Error(a, n)
			}
		}
		for _, n := range []int{-1, -2, 31, 32, 40, math.MinInt, math.MaxInt, 1 << 32} {
			mustList(t, impl.ZeroModule(a, n))
		}
	})
	for _, a := range algebrasWithFlaws() {
		mustList(t, impl.ZeroModule(a, 1))
	}
}

func TestDualModules(t *testing.T) {
	eachModule(1005, func(r *rand.Rand, k knownModule) {
		dual := impl.DualModule(k.a, k.m)
		mustList(t, dual, dualBy(k.m)...)
		if !impl.IsModule(k.a, dual) {
			t.Error(k)
		}
		mustList(t, impl.DualModule(k.a, dual), k.m...)
	})
	for _, m := range noModules() {
		mustList(t, impl.DualModule(special(101), m))
	}
}

// mustModule reports a list that is no module or differs.
func mustModule(t *testing.T, what any, a impl.Algebra, got []impl.Matrix, ok bool, want []impl.Matrix) {
	t.Helper()
	if !ok || !slices.EqualFunc(got, want, sameMatrix) || !impl.IsModule(a, got) {
		t.Errorf("%v: %v %v, not %v", what, got, ok, want)
	}
}

func mustNoModule(t *testing.T, what any, got []impl.Matrix, ok bool) {
	t.Helper()
	if ok || len(got) > 0 {
		t.Errorf("%v: %v %v", what, got, ok)
	}
}

func TestSumsAndTensorsOfModules(t *testing.T) {
	ordered, large := 0, 0
	eachTwoModules(1006, func(r *rand.Rand, k knownModule, n []impl.Matrix) {
		sum, ok := impl.SumModules(k.a, k.m, n)
		mustModule(t, "sum", k.a, sum, ok, sumBy(k.m, n))
		tensor, ok := impl.TensorModules(k.a, k.m, n)
		if k.size()*n[0].Rows > 30 {
			large++
			mustNoModule(t, "tensor", tensor, ok)
			return
		}
		mustModule(t, "tensor", k.a, tensor, ok, tensorModuleBy(k.m, n))
		other, _ := impl.TensorModules(k.a, n, k.m)
		if !slices.EqualFunc(tensor, other, sameMatrix) {
			ordered++
		}
		// The dual of a product is the product of the duals.
		dual, ok := impl.TensorModules(k.a, impl.DualModule(k.a, k.m), impl.DualModule(k.a, n))
		mustModule(t, "dual", k.a, dual, ok, dualBy(tensor))
	})
	if ordered < 100 || large < 5 {
		t.Error(ordered, large)
	}
}

// TestSizesOfSumsAndTensors has sizes that are together at MaxModule, and above.
func TestSizesOfSumsAndTensors(t *testing.T) {
	for _, a := range []impl.Algebra{algebraOf(2, 1, 0), affine(5), withTerms(10007, 28)} {
		for m := range 31 {
			for _, n := range []int{0, 1, 2, 3, 4, 5, 6, 7, 10, 15, 29 - m, 30 - m, 31 - m, 30} {
				if n < 0 || n > 30 || a.Dim > 2 && m%15 > 1 {
					continue
				}
				left, right := zeroModuleBy(a, m), zeroModuleBy(a, n)
				got, ok := impl.SumModules(a, left, right)
				if m+n <= 30 {
					mustModule(t, "sum", a, got, ok, zeroModuleBy(a, m+n))
				} else {
					mustNoModule(t, "sum", got, ok)
				}
				got, ok = impl.TensorModules(a, left, right)
				if m*n <= 30 {
					mustModule(t, "tensor", a, got, ok, zeroModuleBy(a, m*n))
				} else {
					mustNoModule(t, "tensor", got, ok)
				}
			}
		}
	}
}

func TestSumsAndTensorsOfNoModules(t *testing.T) {
	a := special(101)
	good := zeroModuleBy(a, 2)
	for _, m := range noModules() {
		for _, pair := range [][2][]impl.Matrix{{m, good}, {good, m}, {m, m}} {
			got, ok := impl.SumModules(a, pair[0], pair[1])
			mustNoModule(t, "sum", got, ok)
			got, ok = impl.TensorModules(a, pair[0], pair[1])
			mustNoModule(t, "tensor", got, ok)
		}
	}
}

func TestExamplesOfModules(t *testing.T) {
	a := affine(7)
	m, n := squares(7, 2, []int{1, 0, 0, 0}, []int{0, 0, 1, 0}), squares(7, 1, []int{3}, []int{0})
	got, ok := impl.SumModules(a, m, n)
	mustModule(t, "sum", a, got, ok, squares(7, 3, []int{1, 0, 0, 0, 0, 0, 0, 0, 3}, []int{0, 0, 0, 1, 0, 0, 0, 0, 0}))
	got, ok = impl.SumModules(a, n, m)
	mustModule(t, "sum", a, got, ok, squares(7, 3, []int{3, 0, 0, 0, 1, 0, 0, 0, 0}, []int{0, 0, 0, 0, 0, 0, 0, 1, 0}))
	got, ok = impl.TensorModules(a, m, n)
	mustModule(t, "tensor", a, got, ok, squares(7, 2, []int{4, 0, 0, 3}, []int{0, 0, 1, 0}))
	mustList(t, impl.DualModule(a, m), squares(7, 2, []int{6, 0, 0, 0}, []int{0, 6, 0, 0})...)
	mustList(t, impl.AdjointModule(a), squares(7, 2, []int{0, 0, 0, 1}, []int{0, 6, 0, 0})...)
	sum := sumBy(m, n)
	got, ok = impl.TensorModules(a, m, sum)
	mustModule(t, "tensor", a, got, ok, squares(7, 6,
		[]int{2, 0, 0, 0, 0, 0, 0, 1, 0, 0, 0, 0, 0, 0, 4, 0, 0, 0, 0, 0, 0, 1, 0, 0, 0, 0, 0, 0, 0, 0, 0, 0, 0, 0, 0, 3},
		[]int{0, 0, 0, 0, 0, 0, 1, 0, 0, 0, 0, 0, 0, 0, 0, 0, 0, 0, 1, 0, 0, 0, 0, 0, 0, 1, 0, 1, 0, 0, 0, 0, 1, 0, 0, 0}))
	x, ok := impl.MatrixOf(a, m, []int{2, 5})
	mustMatrix(t, "element", x, ok, matrixOf(7, 2, 2, 2, 0, 5, 0))
	// The same matrices in the other order of products are no module.
	if impl.IsModule(a, squares(7, 2, []int{1, 0, 0, 0}, []int{0, 1, 0, 0})) {
		t.Error("columns")
	}
}
