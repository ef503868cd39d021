package tests

import (
	"math"
	"math/rand/v2"
	"slices"
	"testing"

	"loop.example/g03109/impl"
)

// serreBy says by the document's words what SerreOk must say of elements of a valid algebra and a Cartan matrix.
func serreBy(a impl.Algebra, c impl.Cartan, e [][]int, f [][]int) bool {
	holds := true
	must := func(x []int, n int, y []int) { holds = holds && slices.Equal(x, multipleOf(a.P, n, y)) }
	for i := range c.Rank {
		hi := bracketBy(a, e[i], f[i])
		for j := range c.Rank {
			n := entry(c, i, j)
			must(bracketBy(a, hi, bracketBy(a, e[j], f[j])), 0, hi)
			must(bracketBy(a, hi, e[j]), n, e[j])
			must(bracketBy(a, hi, f[j]), -n, f[j])
			if i == j {
				continue
			}
			must(bracketBy(a, e[i], f[j]), 0, hi)
			x, y := e[j], f[j]
			for range 1 - n {
				x, y = bracketBy(a, e[i], x), bracketBy(a, f[i], y)
			}
			must(x, 0, hi)
			must(y, 0, hi)
		}
	}
	return holds
}

func checkSerre(t *testing.T, a impl.Algebra, c impl.Cartan, e [][]int, f [][]int) bool {
	t.Helper()
	got := impl.SerreOk(a, c, e, f)
	if got != serreBy(a, c, e, f) {
		t.Error(a, c, e, f, got)
	}
	return got
}

// generators are the elements of the simple roots and of those opposite to them.
func (r *rootTable) generators() ([][]int, [][]int) {
	var e, f [][]int
	for i := range r.c.Rank {
		e = append(e, unitVector(r.dim(), i))
		f = append(f, unitVector(r.dim(), r.at(r.opposite(i))))
	}
	return e, f
}

func imagesOf(list [][]int, m impl.Matrix) [][]int {
	var images [][]int
	for _, x := range list {
		images = append(images, combine(m, x))
	}
	return images
}

func TestSerreOfTables(t *testing.T) {
	r := newRandom(760)
	for _, table := range smallTables() {
		for _, p := range []int{2, 3, 5, 7, 101, 10007} {
			a := table.table(p)
			e, f := table.generators()
			m := invertible(r, p, a.Dim)
			back, _ := impl.InverseMatrix(m)
			if table.c.Rank < 4 {
				checkSerre(t, a, table.c, e, f)
			}
			if !impl.SerreOk(a, table.c, e, f) || !impl.SerreOk(rebased(a, m, back), table.c, imagesOf(e, back), imagesOf(f, back)) {
				t.Error(table.c, p)
			}
			// The other side, scaled elements, and zeros obey the same.
			minusF := imagesOf(f, impl.ScaleMatrix(impl.UnitMatrix(p, a.Dim), -1))
			minusE := imagesOf(e, impl.ScaleMatrix(impl.UnitMatrix(p, a.Dim), -1))
			zeros := imagesOf(e, constant(p, a.Dim, a.Dim, 0))
			if !impl.SerreOk(a, table.c, minusF, minusE) || !impl.SerreOk(a, table.c, minusE, minusF) || !impl.SerreOk(a, table.c, f, e) || !impl.SerreOk(a, table.c, zeros, zeros) {
				t.Error(table.c, p)
			}
			if p > 2 && (impl.SerreOk(a, table.c, minusE, f) || impl.SerreOk(a, table.c, e, minusF) || impl.SerreOk(a, table.c, e, zeros) || impl.SerreOk(a, table.c, zeros, f)) {
				t.Error(table.c, p)
			}
		}
	}
}

// TestSerreOfOtherMatrices has the elements of one type and the matrix of another one of its rank.
func TestSerreOfOtherMatrices(t *testing.T) {
	for _, table := range smallTables() {
		a := table.table(11)
		e, f := table.generators()
		for _, other := range rootTables() {
			if other.c.Rank == table.c.Rank && (other.c.Rank < 4 || len(other.parts) < 3) {
				if got := impl.SerreOk(a, other.c, e, f); got != slices.Equal(other.c.Data, table.c.Data) {
					t.Error(table.c, other.c, got)
				}
			}
		}
	}
}

// TestSerreWithOneChange has one element that is not what it should be.
func TestSerreWithOneChange(t *testing.T) {
	r := newRandom(761)
	for _, table := range smallTables() {
		if table.c.Rank > 3 {
			continue
		}
		for _, p := range []int{2, 3, 7} {
			a := table.table(p)
			for range 12 {
				e, f := table.generators()
				list := [][][]int{e, f}[r.IntN(2)]
				i := r.IntN(len(list))
				switch r.IntN(3) {
				case 0:
					list[i] = unitVector(a.Dim, r.IntN(a.Dim))
				case 1:
					list[i] = plus(p, list[i], unitVector(a.Dim, r.IntN(a.Dim)))
				default:
					list[i] = list[r.IntN(len(list))]
				}
				checkSerre(t, a, table.c, e, f)
			}
		}
	}
}

// TestSerreOfAllElements asks for all pairs of elements of small algebras for A1, and for all fours for rank 2.
func TestSerreOfAllElements(t *testing.T) {
	counts := map[bool]int{}
	a1 := namedTable("A1").c
	for _, p := range []int{2, 3} {
		for _, a := range append(fewAlgebras(p), withTerms(p, 3, term{0, 1, 1, 2})) {
			if a.Dim > 3 {
				continue
			}
			for _, x := range allVectors(p, a.Dim) {
				for _, y := range allVectors(p, a.Dim) {
					counts[checkSerre(t, a, a1, [][]int{x}, [][]int{y})]++
				}
			}
		}
	}
	if counts[true] < 50 || counts[false] < 50 {
		t.Error(counts)
	}
	for _, a := range []impl.Algebra{affine(2), affine(3), special(2), heisenberg(2), withTerms(2, 3, term{0, 1, 1, 1}), withTerms(2, 3, term{0, 1, 1, 1}, term{0, 2, 2, 1})} {
		for _, v := range allVectors(a.P, 4*a.Dim) {
			n := a.Dim
			for _, k := range rootTables() {
				if k.c.Rank == 2 {
					checkSerre(t, a, k.c, [][]int{v[:n], v[n : 2*n]}, [][]int{v[2*n : 3*n], v[3*n:]})
				}
			}
		}
	}
}

// overPolynomials has e, h and f modulo 2, which act on 1 and x as the multiplication by x, as 1 and as the derivative. The
// square of x is as given. Behind these stand the brackets [1, x], [1, [1, x]] and [x, [1, x]] of a free algebra, if asked for.
func overPolynomials(square int, more bool) impl.Algebra {
	terms := []term{{0, 2, 1, 1}, {0, 3, 4, 1}, {0, 4, 3, square}, {1, 3, 3, 1}, {1, 4, 4, 1}, {2, 4, 3, 1}}
	if !more {
		return withTerms(2, 5, terms...)
	}
	free := []term{{3, 4, 5, 1}, {3, 5, 6, 1}, {4, 5, 7, 1}, {0, 6, 7, 1}, {1, 6, 6, 1}, {1, 7, 7, 1}, {2, 7, 6, 1}}
	return withTerms(2, 8, slices.Concat(terms, free)...)
}

// TestSerreWithOneFault has elements for which one of the conditions alone does not hold: without it all would be well.
func TestSerreWithOneFault(t *testing.T) {
	a1a1, b2 := namedTable("A1+A1").c, namedTable("B2").c
	for _, e := range []struct {
		a    impl.Algebra
		c    impl.Cartan
		e, f [2]int
		want bool
	}{
		// The place -1 stands for 0. Modulo 2, all is 0 that the matrix of A1+A1 says.
		{heisenberg(2), a1a1, [2]int{0, 2}, [2]int{2, 0}, true},
		{heisenberg(2), a1a1, [2]int{0, 0}, [2]int{0, 0}, true},
		{heisenberg(2), a1a1, [2]int{0, 1}, [2]int{-1, -1}, false},
		{heisenberg(2), a1a1, [2]int{-1, -1}, [2]int{0, 1}, false},
		{heisenberg(2), a1a1, [2]int{0, -1}, [2]int{-1, 1}, false},
		{heisenberg(2), a1a1, [2]int{-1, 0}, [2]int{1, -1}, false},
		{heisenberg(2), a1a1, [2]int{0, -1}, [2]int{1, -1}, true},
		{heisenberg(3), a1a1, [2]int{0, -1}, [2]int{1, -1}, false},
		{heisenberg(3), a1a1, [2]int{0, -1}, [2]int{-1, -1}, false},
		{heisenberg(3), a1a1, [2]int{-1, -1}, [2]int{-1, 0}, false},
		{heisenberg(3), a1a1, [2]int{-1, -1}, [2]int{-1, -1}, true},
		// e(0) goes twice from 1 to 1, or to 0.
		{overPolynomials(0, false), b2, [2]int{0, 3}, [2]int{2, -1}, true},
		{overPolynomials(1, false), b2, [2]int{0, 3}, [2]int{2, -1}, false},
		{overPolynomials(0, false), b2, [2]int{2, -1}, [2]int{0, 3}, true},
		{overPolynomials(1, false), b2, [2]int{2, -1}, [2]int{0, 3}, false},
		// e(1) goes three times from e(0) to an element other than 0, and four times to 0.
		{overPolynomials(0, true), b2, [2]int{0, 3}, [2]int{2, -1}, false},
		{overPolynomials(0, true), b2, [2]int{2, -1}, [2]int{0, 3}, false},
		{overPolynomials(0, true), b2, [2]int{0, 5}, [2]int{2, -1}, false},
		{overPolynomials(0, true), b2, [2]int{0, 6}, [2]int{2, -1}, true},
	} {
		at := func(place int) []int {
			if place < 0 {
				return make([]int, e.a.Dim)
			}
			return unitVector(e.a.Dim, place)
		}
		got := checkSerre(t, e.a, e.c, [][]int{at(e.e[0]), at(e.e[1])}, [][]int{at(e.f[0]), at(e.f[1])})
		if !validAlgebra(e.a) || got != e.want {
			t.Error(e.a, e.c, e.e, e.f, got)
		}
	}
}

func TestSerreOfInvalidLists(t *testing.T) {
	table := namedTable("A2")
	a := table.table(7)
	e, f := table.generators()
	short, long := unitVector(7, 0), unitVector(9, 0)
	for _, bad := range [][][]int{nil, {}, e[:1], append(slices.Clone(e), e[0]), {e[0], nil}, {nil, e[1]}, {e[0], short}, {short, e[1]}, {long, e[1]}, {e[0], long}} {
		if impl.SerreOk(a, table.c, bad, f) || impl.SerreOk(a, table.c, f, bad) || impl.SerreOk(a, table.c, bad, bad) {
			t.Error(bad)
		}
	}
	zero := make([]int, 8)
	for i := range 2 {
		for place := range 8 {
			for _, n := range []int{-1, 7, 8, -7, math.MinInt, math.MaxInt} {
				list := [][]int{zero, zero}
				list[i] = slices.Clone(zero)
				list[i][place] = n
				if impl.SerreOk(a, table.c, list, [][]int{zero, zero}) || impl.SerreOk(a, table.c, [][]int{zero, zero}, list) {
					t.Error(list)
				}
			}
		}
	}
	if !impl.SerreOk(a, table.c, [][]int{zero, zero}, [][]int{zero, zero}) || !impl.SerreOk(algebraOf(5, 0), table.c, [][]int{nil, {}}, [][]int{{}, nil}) {
		t.Error("zeros obey all")
	}
	if impl.SerreOk(algebraOf(5, 0), impl.Cartan{}, nil, nil) {
		t.Error("no Cartan matrix")
	}
}

// reflectionBy is the product by its definition.
func reflectionBy(r *rootTable, p int, i int) impl.Matrix {
	a := r.table(p)
	up := expBy(adjointBy(a, unitVector(a.Dim, i)))
	down := expBy(adjointBy(a, multipleOf(p, -1, unitVector(a.Dim, r.at(r.opposite(i))))))
	return multiply(multiply(up, down), up)
}

func TestReflectionMapsByDefinition(t *testing.T) {
	for _, r := range rootTables() {
		for i := range r.c.Rank {
			for _, p := range []int{7, 11, 10007} {
				got, ok := impl.ReflectionMap(r.c, p, i)
				if r.dim() > 28 {
					mustFail(t, r.name(), got, ok)
				} else if r.c.Rank < 4 || p == 7 {
					mustMatrix(t, r.name(), got, ok, reflectionBy(r, p, i))
				}
			}
		}
	}
}

func TestExamplesOfReflectionMaps(t *testing.T) {
	got, ok := impl.ReflectionMap(cartanNamed(t, "A1"), 7, 0)
	mustMatrix(t, "A1", got, ok, matrixOf(7, 3, 3, 0, 0, 6, 0, 6, 0, 6, 0, 0))
	got, ok = impl.ReflectionMap(cartanNamed(t, "A1+A1"), 11, 1)
	mustMatrix(t, "A1+A1", got, ok, matrixOf(11, 6, 6,
		1, 0, 0, 0, 0, 0,
		0, 0, 0, 0, 0, 10,
		0, 0, 1, 0, 0, 0,
		0, 0, 0, 10, 0, 0,
		0, 0, 0, 0, 1, 0,
		0, 10, 0, 0, 0, 0))
}

// TestReflectionMapsReflect says that they are automorphisms, and take the elements of roots to those of reflected ones, or their negatives.
func TestReflectionMapsReflect(t *testing.T) {
	for _, r := range smallTables() {
		for i := range r.c.Rank {
			p := []int{7, 101, 10007}[i%3]
			m, ok := impl.ReflectionMap(r.c, p, i)
			if !ok || !impl.IsAutomorphism(r.table(p), m) {
				t.Fatal(r.c, i, ok)
			}
			for k, x := range r.roots {
				image := r.at(r.place[text(reflectedBy(r.c, i, x))])
				want := unitVector(r.dim(), image)
				if got := row(m, r.at(k)); !slices.Equal(got, want) && !slices.Equal(got, multipleOf(p, -1, want)) {
					t.Error(r.c, i, x, got)
				}
			}
			for k := range r.c.Rank {
				want := unitVector(r.dim(), r.positive()+k)
				want[r.positive()+i] -= entry(r.c, k, i)
				mustVector(t, r.name(), row(m, r.positive()+k), residues(want, p))
			}
		}
	}
}

func TestReflectionMapsThatFail(t *testing.T) {
	for _, name := range []string{"A1", "A2", "G2", "D4", "A1+B2"} {
		c := cartanNamed(t, name)
		for _, i := range []int{-1, c.Rank, c.Rank + 1, math.MinInt, math.MaxInt, 1 << 32} {
			m, ok := impl.ReflectionMap(c, 7, i)
			mustFail(t, name, m, ok)
		}
		for i := range c.Rank {
			for _, p := range append(slices.Clone(noPrimes), 2, 3, 5) {
				m, ok := impl.ReflectionMap(c, p, i)
				mustFail(t, name, m, ok)
			}
			if m, ok := impl.ReflectionMap(c, 7, i); !ok || m.P != 7 {
				t.Error(name, i)
			}
		}
	}
	for _, name := range []string{"B4", "C4", "F4"} {
		m, ok := impl.ReflectionMap(cartanNamed(t, name), 7, 0)
		mustFail(t, name, m, ok)
	}
}

// TestReflectionsOfGenerators says that the images of generators are generators, too.
func TestReflectionsOfGenerators(t *testing.T) {
	r := newRandom(762)
	for _, table := range smallTables() {
		e, f := table.generators()
		for range 3 {
			m, _ := impl.ReflectionMap(table.c, 13, r.IntN(table.c.Rank))
			e, f = imagesOf(e, m), imagesOf(f, m)
		}
		if !impl.SerreOk(table.table(13), table.c, e, f) {
			t.Error(table.c)
		}
	}
}

// TestSerreOfRandom has elements of algebras of matrices.
func TestSerreOfRandom(t *testing.T) {
	r := newRandom(763)
	obeys := func(r *rand.Rand, a impl.Algebra, c impl.Cartan, few int) bool {
		pick := func() [][]int {
			var list [][]int
			for range c.Rank {
				x := make([]int, a.Dim)
				for range few {
					x[r.IntN(a.Dim)] = r.IntN(a.P)
				}
				list = append(list, x)
			}
			return list
		}
		return checkSerre(t, a, c, pick(), pick())
	}
	found := 0
	for range 3000 {
		a := []impl.Algebra{general(2, 2), general(3, 2), general(2, 3), general(3, 3), general(5, 2), upperTable(2, 4, 0), upperTable(3, 4, 1)}[r.IntN(7)]
		if obeys(r, a, rootTables()[r.IntN(len(rootTables()))].c, r.IntN(3)) {
			found++
		}
	}
	if found < 30 {
		t.Error(found)
	}
}
