package tests

import (
	"math/rand/v2"
	"slices"
	"testing"

	"loop.example/g03109/impl"
)

func TestTypesOfTables(t *testing.T) {
	for _, table := range smallTables() {
		for _, p := range []int{2, 3, 5, 7, 11, 97, 101, 103, 10007} {
			want := table.sortedName()
			if p < 5 || p > 101 {
				want = ""
			}
			a, _ := impl.SimpleTable(table.c, p)
			s, _ := impl.CartanSpace(table.c, p)
			if got := impl.TypeOfAlgebra(a, s); got != want {
				t.Error(table.c, p, got, want)
			}
		}
	}
}

func TestTypesInOtherBases(t *testing.T) {
	r := newRandom(740)
	for _, table := range smallTables() {
		for _, p := range []int{5, 7, 101} {
			a := table.table(p)
			m := invertible(r, p, a.Dim)
			back, _ := impl.InverseMatrix(m)
			other, ok := impl.ChangeBasis(a, m)
			s := moved(table.cartanRows(p), back)
			if got := impl.TypeOfAlgebra(other, s); !ok || got != table.sortedName() {
				t.Error(table.c, p, got)
			}
			if s.Rows < a.Dim && impl.TypeOfAlgebra(other, table.cartanRows(p)) != typeBy(other, table.cartanRows(p)) {
				t.Error(table.c, p)
			}
		}
	}
}

// TestTypesByOtherToralSpaces has those that reflections and other automorphisms make.
func TestTypesByOtherToralSpaces(t *testing.T) {
	for _, name := range []string{"A1", "A2", "B2", "G2", "A3", "A1+A2"} {
		table := namedTable(name)
		a := table.table(11)
		for i := range a.Dim {
			up, ok := impl.ExpMatrix(impl.AdjointOf(a, unitVector(a.Dim, i)))
			if !ok {
				continue
			}
			s := moved(table.cartanRows(11), up)
			if got := impl.TypeOfAlgebra(a, s); got != name {
				t.Error(name, i, got)
			}
		}
	}
	if got := impl.TypeOfAlgebra(namedTable("A1").table(5), matrixOf(5, 1, 3, 1, 0, 1)); got != "A1" {
		t.Error(got)
	}
}

func TestTypesOfSums(t *testing.T) {
	for _, names := range [][]string{{"A1", "A1"}, {"B2", "A1"}, {"A2", "G2"}, {"G2", "G2"}, {"A1", "A1", "A1", "A1"}, {"C3", "A1"}, {"A1", "B2", "A1"}, {"A1", "A1", "A1", "A1", "A1"}, {"A2", "A2", "A1"}} {
		sum, rows, rank := algebraOf(7, 0), matrixOf(7, 0, 0), 0
		for _, name := range names {
			table := namedTable(name)
			s := constant(7, rows.Rows+table.c.Rank, sum.Dim+table.dim(), 0)
			for i := range rows.Rows {
				copy(row(s, i), row(rows, i))
			}
			for i := range table.c.Rank {
				copy(row(s, rows.Rows+i)[sum.Dim:], row(table.cartanRows(7), i))
			}
			sum, rows, rank = sumOf(sum, table.table(7)), s, rank+table.c.Rank
		}
		want := joinedName(names...)
		if rank > 4 {
			want = ""
		}
		if got := impl.TypeOfAlgebra(sum, rows); got != want || !impl.IsToral(sum, rows) {
			t.Error(names, got)
		}
		withOne := sumOf(sum, withTerms(7, 1))
		if got := impl.TypeOfAlgebra(withOne, widenedRows(rows, 0)); got != "" {
			t.Error(names, got)
		}
		if got := impl.TypeOfAlgebra(withOne, widenedRows(rows, 1)); got != "" {
			t.Error(names, got)
		}
	}
}

// widenedRows has one column more, and as many rows more, with a 1 in that column.
func widenedRows(s impl.Matrix, more int) impl.Matrix {
	m := constant(s.P, s.Rows+more, s.Cols+1, 0)
	for i := range m.Rows {
		if i < s.Rows {
			copy(row(m, i), row(s, i))
		} else {
			row(m, i)[s.Cols] = 1
		}
	}
	return m
}

// graded has the basis elements t(k), one for each row, and one for each list of residues, which t(k) multiplies by its number k.
func graded(p int, rank int, lists [][]int) (impl.Algebra, impl.Matrix) {
	var terms []term
	for i, list := range lists {
		for k, n := range list {
			terms = append(terms, term{k, rank + i, rank + i, n})
		}
	}
	return withTerms(p, rank+len(lists), terms...), unitRows(p, rank+len(lists), upTo(rank)...)
}

func checkGraded(t *testing.T, p int, rank int, lists [][]int, want string) {
	t.Helper()
	a, s := graded(p, rank, lists)
	if got := impl.TypeOfAlgebra(a, s); got != want {
		t.Error(p, lists, got, want)
	}
}

// TestConditionsOfTypes has algebras for which one condition alone does not hold, beside one for which all do.
func TestConditionsOfTypes(t *testing.T) {
	checkGraded(t, 5, 1, [][]int{{1}, {4}}, "A1")
	checkGraded(t, 5, 1, [][]int{{2}, {3}}, "A1")
	checkGraded(t, 101, 1, [][]int{{50}, {51}}, "A1")
	// P is below 5 or above MaxToral.
	checkGraded(t, 3, 1, [][]int{{1}, {2}}, "")
	checkGraded(t, 2, 1, [][]int{{1}}, "")
	checkGraded(t, 103, 1, [][]int{{1}, {102}}, "")
	// The space of the list of zeros is larger than s.
	checkGraded(t, 5, 1, [][]int{{0}, {1}, {4}}, "")
	// A space has two rows.
	checkGraded(t, 5, 1, [][]int{{1}, {1}, {4}, {4}}, "")
	checkGraded(t, 5, 1, [][]int{{1}, {4}, {4}}, "")
	// A root has no opposite one.
	checkGraded(t, 5, 1, [][]int{{1}}, "")
	checkGraded(t, 5, 1, [][]int{{4}}, "")
	checkGraded(t, 7, 1, [][]int{{1}, {6}, {3}}, "")
	// There are less or more simple roots than rows, or none.
	checkGraded(t, 5, 2, [][]int{{1, 0}, {4, 0}}, "")
	checkGraded(t, 5, 2, [][]int{{1, 0}, {4, 0}, {0, 1}, {0, 4}}, "A1+A1")
	checkGraded(t, 101, 1, [][]int{{1}, {100}, {10}, {91}}, "")
	checkGraded(t, 5, 1, nil, "")
	checkGraded(t, 5, 0, nil, "")
	checkGraded(t, 5, 4, nil, "")
	checkGraded(t, 7, 4, [][]int{{1, 0, 0, 0}, {6, 0, 0, 0}, {0, 1, 0, 0}, {0, 6, 0, 0}, {0, 0, 1, 0}, {0, 0, 6, 0}, {0, 0, 0, 1}, {0, 0, 0, 6}}, "A1+A1+A1+A1")
	checkGraded(t, 101, 2, [][]int{{1, 0}, {100, 0}, {0, 1}, {0, 100}, {1, 1}, {100, 100}}, "A2")
	checkGraded(t, 101, 2, [][]int{{1, 0}, {100, 0}, {0, 1}, {0, 100}, {1, 1}, {100, 100}, {2, 1}, {99, 100}}, "B2")
	// The simple roots 3 0 and 3 1 have the number -2 in both orders.
	checkGraded(t, 5, 2, [][]int{{1, 1}, {4, 4}, {1, 3}, {4, 2}, {1, 4}, {4, 1}, {2, 0}, {3, 0}, {2, 4}, {3, 1}}, "")
}

func TestExamplesOfTypes(t *testing.T) {
	for _, e := range []struct {
		a    impl.Algebra
		s    impl.Matrix
		want string
	}{
		{special(5), matrixOf(5, 1, 3, 1, 0, 0), "A1"},
		{special(5), matrixOf(5, 0, 3), ""},
		{special(5), matrixOf(5, 1, 3, 0, 1, 0), ""},
		{special(7), matrixOf(5, 1, 3, 1, 0, 0), ""},
		{general(5, 2), unitRows(5, 4, 0, 3), ""},
		{general(5, 2), matrixOf(5, 1, 4, 1, 0, 0, 4), ""},
		{general(7, 3), unitRows(7, 9, 0, 4, 8), ""},
		{affine(5), matrixOf(5, 1, 2, 1, 0), ""},
		{heisenberg(5), matrixOf(5, 1, 3, 0, 0, 1), ""},
		{withTerms(5, 2), impl.UnitMatrix(5, 2), ""},
		{algebraOf(5, 0), matrixOf(5, 0, 0), ""},
		{algebraOf(5, 1, 0), matrixOf(5, 1, 1, 1), ""},
		{withTerms(5, 28), impl.UnitMatrix(5, 28), ""},
		{impl.Algebra{}, impl.Matrix{}, ""},
	} {
		if got := impl.TypeOfAlgebra(e.a, e.s); got != e.want || got != typeBy(e.a, e.s) {
			t.Error(e.a, e.s, got, e.want)
		}
	}
}

// TestTypesByTooSmallToralSpaces leaves rows of the CartanSpace out, and takes lines in it.
func TestTypesByTooSmallToralSpaces(t *testing.T) {
	r := newRandom(741)
	for _, table := range smallTables() {
		for _, p := range []int{5, 7, 101} {
			a, rows := table.table(p), table.cartanRows(p)
			for left := range table.c.Rank {
				s := impl.SpanOf(multiply(lowRank(r, p, left, table.c.Rank, left), rows))
				if got := impl.TypeOfAlgebra(a, s); got != typeBy(a, s) || s.Rows < table.c.Rank && got != "" {
					t.Error(table.c, p, s, got)
				}
			}
		}
	}
}

// TestTypesOfParts has the subalgebras by the h(i) and some roots, among them those of positive roots alone.
func TestTypesOfParts(t *testing.T) {
	for _, table := range smallTables() {
		if table.c.Rank > 3 {
			continue
		}
		a := table.table(7)
		for i := range table.positive() {
			some := []int{i}
			if i%2 == 0 {
				some = append(some, table.at(table.opposite(i)))
			}
			if i%3 == 0 {
				some = upTo(i + 1)
			}
			for row := range table.c.Rank {
				some = append(some, table.positive()+row)
			}
			slices.Sort(some)
			part, ok := impl.SubalgebraBy(a, unitRows(7, a.Dim, some...))
			sub, fine := impl.SubTable(a, part)
			s := matrixOf(7, 0, sub.Dim)
			for k := range table.c.Rank {
				x, _ := impl.CoordinatesIn(part, row(table.cartanRows(7), k))
				s.Data = append(s.Data, x...)
				s.Rows++
			}
			got := impl.TypeOfAlgebra(sub, impl.SpanOf(s))
			if !ok || !fine || got != typeBy(sub, impl.SpanOf(s)) {
				t.Error(table.c, some, got)
			}
			want := ""
			if sub.Dim == table.dim() || table.c.Rank == 1 && sub.Dim == 3 {
				want = table.sortedName()
			}
			if got != want {
				t.Error(table.c, some, got)
			}
		}
	}
}

// TestTypesOfAllLists asks for all sets of residues, and for all sets of pairs modulo 5 that have opposite ones.
func TestTypesOfAllLists(t *testing.T) {
	found := map[string]int{}
	check := func(p int, rank int, lists [][]int) {
		a, s := graded(p, rank, lists)
		got := impl.TypeOfAlgebra(a, s)
		if got != typeBy(a, s) {
			t.Error(p, lists, got)
		}
		found[got]++
	}
	for _, p := range []int{5, 7} {
		for _, chosen := range allVectors(2, p-1) {
			var lists [][]int
			for n, is := range chosen {
				if is == 1 {
					lists = append(lists, []int{n + 1})
				}
			}
			check(p, 1, lists)
		}
	}
	for _, size := range [][3]int{{11, 1, 1}, {17, 1, 1}, {5, 2, 5}} {
		p, rank := size[0], size[1]
		for i, chosen := range allVectors(2, (power2(p, rank)-1)/2) {
			if i%size[2] == 0 {
				check(p, rank, chosenLists(p, rank, chosen))
			}
		}
	}
	if found["A1"] < 20 || found["A1+A1"] < 10 || found["A2"] < 10 || found["B2"] < 10 || found["G2"] == 0 {
		t.Error(found)
	}
}

func power2(p int, rank int) int {
	n := 1
	for range rank {
		n *= p
	}
	return n
}

// chosenLists has those lists of residues that are chosen, and their opposites. Of two opposite ones the lesser counts.
func chosenLists(p int, rank int, chosen []int) [][]int {
	var lists [][]int
	place := 0
	for _, list := range allVectors(p, rank)[1:] {
		other := multipleOf(p, -1, list)
		if slices.Compare(list, other) > 0 {
			continue
		}
		if chosen[place] == 1 {
			lists = append(lists, list, other)
		}
		place++
	}
	return lists
}

// TestTypesOfRandomLists has lists modulo greater numbers, of up to four residues.
func TestTypesOfRandomLists(t *testing.T) {
	r := newRandom(742)
	for range 3000 {
		p, rank := []int{5, 7, 11, 13}[r.IntN(4)], 1+r.IntN(4)
		var lists [][]int
		for range 1 + r.IntN(7) {
			list := randomVector(r, p, rank)
			if r.IntN(2) == 0 && len(lists) > 1 {
				list = plus(p, lists[r.IntN(len(lists))], lists[r.IntN(len(lists))])
			}
			other := multipleOf(p, -1, list)
			if zeroVector(list) || slices.ContainsFunc(lists, func(x []int) bool { return slices.Equal(x, list) }) {
				continue
			}
			lists = append(lists, list, other)
		}
		a, s := graded(p, rank, lists)
		if got := impl.TypeOfAlgebra(a, s); got != typeBy(a, s) {
			t.Error(p, lists, got)
		}
	}
}

// witt has the basis elements -1 to p - 2, and [i, j] is i + j, j - i times.
func witt(p int) impl.Algebra {
	var terms []term
	for i := -1; i <= p-2; i++ {
		for j := -1; j <= p-2; j++ {
			if k := i + j; k >= -1 && k <= p-2 {
				terms = append(terms, term{i + 1, j + 1, k + 1, j - i})
			}
		}
	}
	return withTerms(p, p, terms...)
}

// TestTypesOfWittAlgebras has roots that are all residues but 0. Modulo 5, 1 and 3 are positive, and 1 is 3 + 3. Modulo 7,
// 1, 4 and 5 are positive, 1 is 4 + 4, and 5 is 1 + 4.
func TestTypesOfWittAlgebras(t *testing.T) {
	for p, want := range map[int]string{5: "A1", 7: "A1", 11: "", 13: ""} {
		a := witt(p)
		s := unitRows(p, p, 1)
		if got := impl.TypeOfAlgebra(a, s); !validAlgebra(a) || got != typeBy(a, s) || got != want {
			t.Error(p, got, typeBy(a, s))
		}
	}
}

func TestTypesOfSmall(t *testing.T) {
	eachListed(743, func(r *rand.Rand, l listed, spaces []impl.Matrix) {
		for _, s := range spaces {
			if got := impl.TypeOfAlgebra(l.Algebra, s); got != typeBy(l.Algebra, s) {
				t.Error(l.Algebra, s, got)
			}
		}
	})
}
