package tests

import (
	"math/rand/v2"
	"slices"
	"testing"

	"loop.example/g03109/impl"
)

func TestMaxToral(t *testing.T) {
	if impl.MaxToral != 101 {
		t.Error(impl.MaxToral)
	}
}

// eachToral calls f for small algebras, all of their toral spaces and of others some, and for tables with subspaces of their CartanSpace.
func eachToral(seed uint64, f func(r *rand.Rand, a impl.Algebra, s impl.Matrix)) {
	eachListed(seed, func(r *rand.Rand, l listed, spaces []impl.Matrix) {
		for _, s := range spaces {
			if toralBy(l.Algebra, s) {
				f(r, l.Algebra, s)
			}
		}
	})
	r := newRandom(seed)
	for _, table := range smallTables() {
		if len(table.parts) > 1 && table.c.Rank > 2 && r.IntN(4) > 0 {
			continue
		}
		for _, p := range []int{2, 3, 5, 7, 101} {
			m := invertible(r, p, table.dim())
			back, _ := impl.InverseMatrix(m)
			a, s := table.table(p), table.cartanRows(p)
			f(r, a, s)
			f(r, rebased(a, m, back), moved(s, back))
			some := multiply(lowRank(r, p, table.c.Rank, table.c.Rank, 1+r.IntN(table.c.Rank)), s)
			f(r, a, impl.SpanOf(some))
		}
	}
}

func TestIsToralOfSmall(t *testing.T) {
	toral, others := 0, 0
	eachListed(720, func(r *rand.Rand, l listed, spaces []impl.Matrix) {
		for _, s := range spaces {
			want := toralBy(l.Algebra, s)
			if got := impl.IsToral(l.Algebra, s); got != want {
				t.Error(l.Algebra, s, got)
			}
			if want {
				toral++
			} else {
				others++
			}
		}
	})
	if toral < 100 || others < 100 {
		t.Error(toral, others)
	}
}

// TestIsToralOfLines asks for all lines of the matrices of trace 0, with every multiple of an element that is its own power.
func TestIsToralOfLines(t *testing.T) {
	for _, p := range []int{3, 5, 7, 11} {
		a, toral := special(p), 0
		for _, x := range allVectors(p, 3) {
			s := matrixOf(p, 1, 3, x...)
			want := toralBy(a, s)
			if got := impl.IsToral(a, s); got != want {
				t.Error(p, s, got)
			}
			if want {
				toral++
			}
		}
		// One line for each two different lines that the matrices keep.
		if toral != p*(p+1)/2 {
			t.Error(p, toral)
		}
	}
}

func TestExamplesOfToralSpaces(t *testing.T) {
	a1, _ := impl.SimpleTable(cartanNamed(t, "A1"), 5)
	for _, e := range []struct {
		a    impl.Algebra
		s    impl.Matrix
		want bool
	}{
		{a1, matrixOf(5, 1, 3, 0, 1, 0), true},
		{a1, matrixOf(5, 0, 3), true},
		{a1, matrixOf(5, 1, 3, 1, 0, 0), false},
		{a1, matrixOf(5, 1, 3, 0, 0, 1), false},
		{a1, matrixOf(5, 2, 3, 1, 0, 0, 0, 1, 0), false},
		{a1, impl.UnitMatrix(5, 3), false},
		// Not a space, of another algebra, or modulo another number.
		{a1, matrixOf(5, 1, 3, 0, 2, 0), false},
		{a1, matrixOf(5, 1, 3, 0, 0, 0), false},
		{a1, matrixOf(5, 2, 3, 0, 1, 0, 0, 1, 0), false},
		{a1, matrixOf(7, 1, 3, 0, 1, 0), false},
		{a1, matrixOf(5, 1, 4, 0, 1, 0, 0), false},
		{a1, matrixOf(5, 1, 2, 0, 1), false},
		{a1, impl.Matrix{}, false},
		// e + f is its own power as h is; e + 2 f is none, since 2 is no square.
		{a1, matrixOf(5, 1, 3, 1, 0, 1), true},
		{a1, matrixOf(5, 1, 3, 1, 0, 4), true},
		{a1, matrixOf(5, 1, 3, 1, 0, 2), false},
		{affine(5), matrixOf(5, 1, 2, 1, 0), true},
		{affine(5), matrixOf(5, 1, 2, 1, 3), true},
		{affine(5), matrixOf(5, 1, 2, 0, 1), false},
		{affine(5), impl.UnitMatrix(5, 2), false},
		{heisenberg(5), matrixOf(5, 1, 3, 0, 0, 1), true},
		{heisenberg(5), matrixOf(5, 2, 3, 0, 1, 0, 0, 0, 1), false},
		{withTerms(5, 3), impl.UnitMatrix(5, 3), true},
		{withTerms(101, 28), impl.UnitMatrix(101, 28), true},
		{general(5, 3), unitRows(5, 9, 0, 4, 8), true},
		{general(5, 3), unitRows(5, 9, 0, 1, 8), false},
		{algebraOf(5, 0), matrixOf(5, 0, 0), true},
		{algebraOf(101, 0), matrixOf(101, 0, 0), true},
		{algebraOf(103, 0), matrixOf(103, 0, 0), false},
		{algebraOf(10007, 1, 0), matrixOf(10007, 1, 1, 1), false},
	} {
		if got := impl.IsToral(e.a, e.s); got != e.want {
			t.Error(e.a, e.s, got)
		}
		if lists, spaces := impl.RootSpaces(e.a, e.s); !e.want && len(lists)+len(spaces) > 0 {
			t.Error(e.a, e.s, lists, spaces)
		}
	}
}

// TestOneRowIsNotItsOwnPower has spaces whose other rows are.
func TestOneRowIsNotItsOwnPower(t *testing.T) {
	for _, p := range []int{2, 3, 5} {
		line := func(n int) impl.Algebra { return withTerms(p, 2, term{0, 1, 1, n}) }
		twice := sumOf(line(1), heisenberg(p), line(1))
		for row := range 3 {
			indices := []int{0, 5}
			if row < 2 {
				indices = []int{0, 2 + row, 5}
			}
			s := unitRows(p, 7, indices...)
			if impl.IsToral(twice, s) != (row == 2) || toralBy(twice, s) != (row == 2) {
				t.Error(p, s)
			}
		}
	}
}

func TestGreatestToralPrime(t *testing.T) {
	for _, name := range []string{"A1", "B2", "A1+G2"} {
		for p, want := range map[int]bool{2: true, 3: true, 97: true, 101: true, 103: false, 107: false, 10007: false} {
			a, _ := impl.SimpleTable(cartanNamed(t, name), p)
			s, _ := impl.CartanSpace(cartanNamed(t, name), p)
			lists, spaces := impl.RootSpaces(a, s)
			if impl.IsToral(a, s) != want || (len(lists) > 0) != want || len(lists) != len(spaces) {
				t.Error(name, p, lists)
			}
			wantName := name
			if !want || p < 5 {
				wantName = ""
			}
			if got := impl.TypeOfAlgebra(a, s); got != wantName {
				t.Error(name, p, got)
			}
		}
	}
}

func TestExamplesOfRootSpaces(t *testing.T) {
	a1, _ := impl.SimpleTable(cartanNamed(t, "A1"), 7)
	lists, spaces := impl.RootSpaces(a1, matrixOf(7, 1, 3, 0, 1, 0))
	if !sameLists(lists, [][]int{{0}, {2}, {5}}) {
		t.Error(lists)
	}
	mustList(t, spaces, matrixOf(7, 1, 3, 0, 1, 0), matrixOf(7, 1, 3, 1, 0, 0), matrixOf(7, 1, 3, 0, 0, 1))
	lists, spaces = impl.RootSpaces(a1, matrixOf(7, 0, 3))
	if !sameLists(lists, [][]int{{}}) {
		t.Error(lists)
	}
	mustList(t, spaces, impl.UnitMatrix(7, 3))
	lists, spaces = impl.RootSpaces(general(5, 2), unitRows(5, 4, 0, 3))
	if !sameLists(lists, [][]int{{0, 0}, {1, 4}, {4, 1}}) {
		t.Error(lists)
	}
	mustList(t, spaces, unitRows(5, 4, 0, 3), unitRows(5, 4, 1), unitRows(5, 4, 2))
	lists, spaces = impl.RootSpaces(withTerms(2, 3), impl.UnitMatrix(2, 3))
	if !sameLists(lists, [][]int{{0, 0, 0}}) {
		t.Error(lists)
	}
	mustList(t, spaces, impl.UnitMatrix(2, 3))
	if lists, spaces := impl.RootSpaces(algebraOf(5, 0), matrixOf(5, 0, 0)); len(lists)+len(spaces) > 0 {
		t.Error(lists, spaces)
	}
}

func TestRootSpacesOfSmall(t *testing.T) {
	count := 0
	eachListed(721, func(r *rand.Rand, l listed, spaces []impl.Matrix) {
		for _, s := range spaces {
			if !toralBy(l.Algebra, s) {
				continue
			}
			count++
			lists, got := impl.RootSpaces(l.Algebra, s)
			wantLists, want := rootSpacesBy(l.Algebra, s)
			if !sameLists(lists, wantLists) {
				t.Error(l.Algebra, s, lists, wantLists)
			}
			mustList(t, got, want...)
		}
	})
	if count < 100 {
		t.Error(count)
	}
}

// TestRootSpaces says that the spaces are those of their lists, and together as large as the algebra: there can be no more.
func TestRootSpaces(t *testing.T) {
	eachToral(722, func(r *rand.Rand, a impl.Algebra, s impl.Matrix) {
		lists, spaces := impl.RootSpaces(a, s)
		if len(lists) != len(spaces) {
			t.Fatal(a, s, lists, spaces)
		}
		rows := 0
		for i, list := range lists {
			space := spaces[i]
			if i > 0 && slices.Compare(lists[i-1], list) >= 0 || len(list) != s.Rows || slices.ContainsFunc(list, func(n int) bool { return n < 0 || n >= a.P }) {
				t.Error(a, s, lists)
			}
			if !validMatrix(space) || !reducedSpace(space) || space.P != a.P || space.Cols != a.Dim || space.Rows == 0 {
				t.Fatal(a, s, space)
			}
			for k := range space.Rows {
				if !isMultiplied(a, s, list, row(space, k)) {
					t.Error(a, s, list, space)
				}
			}
			rows += space.Rows
		}
		if rows != a.Dim {
			t.Error(a, s, rows)
		}
	})
}

// TestRootSpacesOfTables says that the lists are the weights of roots, which are all different for greater prime numbers.
func TestRootSpacesOfTables(t *testing.T) {
	for _, table := range smallTables() {
		lists, spaces := impl.RootSpaces(table.table(11), table.cartanRows(11))
		if len(lists) != len(table.roots)+1 {
			t.Error(table.c, lists)
		}
		for i, x := range table.roots {
			at := slices.IndexFunc(lists, func(list []int) bool { return slices.Equal(list, residues(weightBy(table.c, x), 11)) })
			if at < 0 {
				t.Fatal(table.c, x, lists)
			}
			mustMatrix(t, table.name(), spaces[at], true, unitRows(11, table.dim(), table.at(i)))
		}
	}
}
