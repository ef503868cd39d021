package tests

import (
	"slices"
	"testing"

	"loop.example/g03109/impl"
)

// TestExamplesOfTables has e(1), h and e(-1) of A1, and some brackets of others.
func TestExamplesOfTables(t *testing.T) {
	for _, p := range []int{2, 3, 7, 10007} {
		a, ok := impl.SimpleTable(cartanNamed(t, "A1"), p)
		mustAlgebra(t, "A1", a, ok, withTerms(p, 3, term{1, 0, 0, 2}, term{1, 2, 2, -2}, term{0, 2, 1, 1}))
	}
	for _, e := range []struct {
		name string
		p    int
		i, j int
		want []int
	}{
		{"A2", 5, 0, 1, []int{0, 0, 1, 0, 0, 0, 0, 0}},
		{"A2", 5, 2, 7, []int{0, 0, 0, 1, 1, 0, 0, 0}},
		{"A2", 5, 3, 1, []int{0, 4, 0, 0, 0, 0, 0, 0}},
		{"A2", 5, 4, 6, []int{0, 0, 0, 0, 0, 0, 3, 0}},
		{"A2", 5, 2, 5, []int{0, 4, 0, 0, 0, 0, 0, 0}},
		{"A2", 5, 3, 4, []int{0, 0, 0, 0, 0, 0, 0, 0}},
		{"B2", 7, 2, 8, []int{0, 0, 0, 0, 2, 1, 0, 0, 0, 0}},
		{"B2", 7, 4, 1, []int{0, 6, 0, 0, 0, 0, 0, 0, 0, 0}},
		{"B2", 7, 5, 0, []int{5, 0, 0, 0, 0, 0, 0, 0, 0, 0}},
		{"B2", 7, 1, 2, []int{0, 0, 0, 2, 0, 0, 0, 0, 0, 0}},
		{"B2", 2, 1, 2, []int{0, 0, 0, 0, 0, 0, 0, 0, 0, 0}},
		{"G2", 3, 0, 3, []int{0, 0, 0, 0, 0, 0, 0, 0, 0, 0, 0, 0, 0, 0}},
		{"G2", 5, 0, 3, []int{0, 0, 0, 0, 3, 0, 0, 0, 0, 0, 0, 0, 0, 0}},
		{"G2", 5, 2, 3, []int{0, 0, 0, 0, 0, 2, 0, 0, 0, 0, 0, 0, 0, 0}},
		{"G2", 5, 2, 10, []int{0, 0, 0, 0, 0, 0, 1, 3, 0, 0, 0, 0, 0, 0}},
	} {
		a, ok := impl.SimpleTable(cartanNamed(t, e.name), e.p)
		if !ok || a.P != e.p {
			t.Fatal(e.name, a.P, ok)
		}
		mustVector(t, e.name, tableEntry(a, e.i, e.j), e.want)
	}
}

func TestTablesByDefinition(t *testing.T) {
	for _, r := range rootTables() {
		for _, p := range somePrimes {
			a, ok := impl.SimpleTable(r.c, p)
			if r.dim() <= 28 {
				mustAlgebra(t, r.name(), a, ok, r.table(p))
			} else {
				mustFail(t, r.name(), a, ok)
			}
		}
	}
}

// TestDimensionsOfTables has the numbers of the books.
func TestDimensionsOfTables(t *testing.T) {
	dims := map[string]int{"A1": 3, "A2": 8, "A3": 15, "A4": 24, "B2": 10, "B3": 21, "B4": 0, "C3": 21, "C4": 0, "D4": 28, "F4": 0, "G2": 14}
	for _, k := range knownTypes() {
		want := 0
		for _, name := range k.partNames() {
			want += dims[name]
		}
		a, ok := impl.SimpleTable(k.c, 11)
		s, fine := impl.CartanSpace(k.c, 11)
		if a.Dim != want || ok != (want > 0) || s.Cols != want || fine != ok {
			t.Error(k.name(), a.Dim, ok, s.Cols, fine)
		}
	}
	for _, name := range []string{"D4", "G2+G2"} {
		if a, ok := impl.SimpleTable(cartanNamed(t, name), 2); !ok || a.Dim != 28 || !impl.AlgebraOk(a) {
			t.Error(name, ok, a.Dim)
		}
	}
}

// TestTablesObeyJacobi has a prime number so great that what holds modulo it holds for integers.
func TestTablesObeyJacobi(t *testing.T) {
	for _, r := range smallTables() {
		for _, p := range []int{2, 3, 5, 10007} {
			if a, _ := impl.SimpleTable(r.c, p); !impl.AlgebraOk(a) {
				t.Error(r.c, p)
			}
		}
	}
	for _, name := range []string{"A4", "B2", "B3", "C3", "D4", "G2", "A1+A2", "G2+B2"} {
		if a, _ := impl.SimpleTable(cartanNamed(t, name), 10007); !validAlgebra(a) {
			t.Error(name)
		}
	}
}

// TestTablesOfMatrices has for the types A the matrices of trace 0, with single ones above and below the diagonal.
func TestTablesOfMatrices(t *testing.T) {
	for rank, name := range map[int]string{1: "A1", 2: "A2", 3: "A3", 4: "A4"} {
		for _, p := range somePrimes {
			var above, diagonal, below []impl.Matrix
			for distance := 1; distance <= rank; distance++ {
				for i := range rank + 1 - distance {
					j := i + distance
					above = append(above, lone(p, rank+1, i, j))
					below = append(below, lone(p, rank+1, j, i))
				}
			}
			for i := range rank {
				m := lone(p, rank+1, i, i)
				m.Data[(i+1)*(rank+1)+i+1] = p - 1
				diagonal = append(diagonal, m)
			}
			want, ok := impl.AlgebraOfMatrices(slices.Concat(above, diagonal, below))
			if !ok {
				t.Fatal(name, p)
			}
			a, ok := impl.SimpleTable(cartanNamed(t, name), p)
			mustAlgebra(t, name, a, ok, want)
		}
	}
}

// lone has a single 1.
func lone(p int, n int, i int, j int) impl.Matrix {
	m := constant(p, n, n, 0)
	m.Data[i*n+j] = 1
	return m
}

// TestTablesOfSeveralParts says that the elements of one part make its table, and have no brackets with others.
func TestTablesOfSeveralParts(t *testing.T) {
	for _, r := range rootTables()[:45] {
		if r.dim() > 28 || len(r.parts) == 1 {
			continue
		}
		whole, _ := impl.SimpleTable(r.c, 101)
		first := 0
		var before []int
		for _, part := range r.parts {
			alone := tableOfRoots(joinedType([]knownPart{part}))
			places := make([]int, alone.dim())
			for i, x := range alone.roots {
				y := make([]int, r.c.Rank)
				copy(y[first:], x)
				places[alone.at(i)] = r.at(r.place[text(y)])
			}
			for i := range part.rank() {
				places[alone.positive()+i] = r.positive() + first + i
			}
			want, _ := impl.SimpleTable(alone.c, 101)
			for i, u := range places {
				for j, v := range places {
					for k, w := range places {
						if tableEntry(whole, u, v)[w] != tableEntry(want, i, j)[k] {
							t.Error(r.name(), u, v, w)
						}
					}
				}
				for _, v := range before {
					if !zeroVector(tableEntry(whole, u, v)) {
						t.Error(r.name(), u, v)
					}
				}
			}
			before = append(before, places...)
			first += part.rank()
		}
	}
}

func TestTablesModuloOther(t *testing.T) {
	for _, name := range []string{"A1", "B2", "G2", "D4", "F4"} {
		for _, p := range noPrimes {
			a, ok := impl.SimpleTable(cartanNamed(t, name), p)
			mustFail(t, name, a, ok)
			s, ok := impl.CartanSpace(cartanNamed(t, name), p)
			mustFail(t, name, s, ok)
		}
	}
}

// TestCentresOfTables says for which small prime numbers there are elements without brackets.
func TestCentresOfTables(t *testing.T) {
	for _, e := range []struct {
		name      string
		p, centre int
	}{
		{"A1", 2, 1}, {"A1", 3, 0}, {"A2", 2, 0}, {"A2", 3, 1}, {"A3", 2, 1}, {"A3", 5, 0}, {"A4", 5, 1}, {"A4", 7, 0}, {"B2", 3, 0}, {"B3", 5, 0}, {"C3", 3, 0},
		{"D4", 2, 2}, {"D4", 3, 0}, {"G2", 5, 0}, {"A1+A2", 3, 1}, {"A2+A2", 3, 2}, {"G2+G2", 7, 0},
	} {
		a, _ := impl.SimpleTable(cartanNamed(t, e.name), e.p)
		if got := impl.CentreOf(a).Rows; got != e.centre {
			t.Error(e.name, e.p, got)
		}
	}
	for _, r := range smallTables() {
		for _, p := range []int{3, 5, 10007} {
			if a, _ := impl.SimpleTable(r.c, p); !impl.IsPerfect(a) {
				t.Error(r.c, p)
			}
		}
	}
}

func TestRootIndex(t *testing.T) {
	for _, r := range rootTables() {
		for i, x := range r.roots {
			if got := impl.RootIndex(r.c, x); got != r.at(i) {
				t.Error(r.c, x, got)
			}
		}
		for _, x := range append(noRootsOf(r.c), append(slices.Clone(r.roots[0]), 0)) {
			if got := impl.RootIndex(r.c, x); got != -1 {
				t.Error(r.c, x, got)
			}
		}
	}
	for _, e := range []struct {
		name string
		x    []int
		want int
	}{
		{"A1", []int{1}, 0}, {"A1", []int{-1}, 2}, {"A2", []int{0, 1}, 1}, {"A2", []int{-1, -1}, 7}, {"G2", []int{3, 2}, 5}, {"G2", []int{-1, 0}, 8}, {"G2", []int{-3, -2}, 13},
		{"F4", []int{2, 3, 4, 2}, 23}, {"F4", []int{-1, 0, 0, 0}, 28}, {"F4", []int{-2, -3, -4, -2}, 51}, {"A1+A1", []int{0, -1}, 5}, {"A1", []int{0}, -1}, {"A1", []int{2}, -1}, {"A2", []int{1}, -1},
	} {
		if got := impl.RootIndex(cartanNamed(t, e.name), e.x); got != e.want {
			t.Error(e.name, e.x, got)
		}
	}
}

func TestCartanSpace(t *testing.T) {
	s, ok := impl.CartanSpace(cartanNamed(t, "A2"), 2)
	mustMatrix(t, "A2", s, ok, matrixOf(2, 2, 8, 0, 0, 0, 1, 0, 0, 0, 0, 0, 0, 0, 0, 1, 0, 0, 0))
	for _, r := range rootTables() {
		for _, p := range somePrimes {
			s, ok := impl.CartanSpace(r.c, p)
			if r.dim() > 28 {
				mustFail(t, r.name(), s, ok)
				continue
			}
			mustMatrix(t, r.name(), s, ok, r.cartanRows(p))
			if a, _ := impl.SimpleTable(r.c, p); !impl.IsSubalgebra(a, s) {
				t.Error(r.c, p)
			}
		}
	}
}

// TestCartanSpaceIsItsOwnCentralizer holds modulo all prime numbers but 2, and for some types modulo 2.
func TestCartanSpaceIsItsOwnCentralizer(t *testing.T) {
	for _, r := range smallTables() {
		for _, p := range []int{3, 5, 10007} {
			a, _ := impl.SimpleTable(r.c, p)
			s, _ := impl.CartanSpace(r.c, p)
			got, ok := impl.CentralizerOf(a, s)
			mustMatrix(t, r.name(), got, ok, s)
		}
	}
}
