package tests

import (
	"slices"
	"strings"
	"sync"

	"loop.example/g03109/impl"
)

// rootTable has what ConstantOf says of all pairs of roots: the positive ones in their order, then those opposite to them.
type rootTable struct {
	knownType
	roots [][]int
	place map[string]int
	half  []int
	n     [][]int
}

func tableOfRoots(k knownType) *rootTable {
	r := &rootTable{knownType: k, roots: positiveBy(k.c), place: map[string]int{}}
	for _, x := range slices.Clone(r.roots) {
		r.roots = append(r.roots, stepped(x, -2, x))
	}
	for i, x := range r.roots {
		r.place[text(x)] = i
		r.half = append(r.half, innerBy(k, x, x)/2)
		var list []int
		for _, y := range r.roots {
			list = append(list, impl.ConstantOf(k.c, x, y))
		}
		r.n = append(r.n, list)
	}
	return r
}

func (r *rootTable) positive() int { return len(r.roots) / 2 }

func (r *rootTable) opposite(i int) int { return (i + r.positive()) % len(r.roots) }

// sum returns the place of the sum of the roots with these places; -1 if it is none.
func (r *rootTable) sum(places ...int) int {
	x := make([]int, r.c.Rank)
	for _, i := range places {
		x = stepped(x, 1, r.roots[i])
	}
	if i, ok := r.place[text(x)]; ok {
		return i
	}
	return -1
}

// below returns how many of y - x, y - 2 x, .. are roots before the first one that is none.
func (r *rootTable) below(i int, j int) int {
	n := 0
	for _, ok := r.place[text(stepped(r.roots[j], -1, r.roots[i]))]; ok; n++ {
		_, ok = r.place[text(stepped(r.roots[j], -n-2, r.roots[i]))]
	}
	return n
}

// dim is the dimension of the table.
func (r *rootTable) dim() int { return len(r.roots) + r.c.Rank }

// at is the index of e(x) for the root x with this place.
func (r *rootTable) at(place int) int {
	if place < r.positive() {
		return place
	}
	return place + r.c.Rank
}

// table has the brackets as the document defines them.
func (r *rootTable) table(p int) impl.Algebra {
	var terms []term
	h := r.positive()
	for i, x := range r.roots {
		for row, n := range weightBy(r.c, x) {
			terms = append(terms, term{h + row, r.at(i), r.at(i), n})
		}
		for row, n := range x {
			if i < r.positive() {
				terms = append(terms, term{r.at(i), r.at(r.opposite(i)), h + row, n * r.lengths[row] / r.half[i]})
			}
		}
		for j := range r.roots {
			if z := r.sum(i, j); z >= 0 {
				terms = append(terms, term{r.at(i), r.at(j), r.at(z), r.n[i][j]})
			}
		}
	}
	return withTerms(p, r.dim(), terms...)
}

// cartanRows has the h(i) as rows.
func (r *rootTable) cartanRows(p int) impl.Matrix {
	var indices []int
	for i := range r.c.Rank {
		indices = append(indices, r.positive()+i)
	}
	return unitRows(p, r.dim(), indices...)
}

// rootTables has all types, and other Cartan matrices, of the many of rank 4 a sixth.
var rootTables = sync.OnceValue(func() []*rootTable {
	var list []*rootTable
	seen := map[string]bool{}
	add := func(k knownType) {
		if !seen[text(k.c.Data)] {
			seen[text(k.c.Data)] = true
			list = append(list, tableOfRoots(k))
		}
	}
	for _, k := range knownTypes() {
		add(k)
	}
	for i, k := range reorderedTypes() {
		if k.c.Rank < 4 || i%6 == 0 {
			add(k)
		}
	}
	return list
})

// smallTables has those tables that are not beyond MaxDim.
func smallTables() []*rootTable {
	return slices.DeleteFunc(slices.Clone(rootTables()), func(r *rootTable) bool { return r.dim() > 28 })
}

// namedTable has the type with this name, its rows in their usual order.
func namedTable(name string) *rootTable {
	list := rootTables()
	return list[slices.IndexFunc(list, func(r *rootTable) bool { return r.name() == name })]
}

// toralBy says by the document's words what IsToral must say of a valid algebra.
func toralBy(a impl.Algebra, s impl.Matrix) bool {
	if !validMatrix(s) || !reducedSpace(s) || s.P != a.P || s.Cols != a.Dim || a.P > 101 {
		return false
	}
	for i := range s.Rows {
		for j := range s.Rows {
			if !zeroVector(bracketBy(a, row(s, i), row(s, j))) {
				return false
			}
		}
		m := adjointBy(a, row(s, i))
		power := m
		for range a.P - 1 {
			power = multiply(power, m)
		}
		if !sameMatrix(power, m) {
			return false
		}
	}
	return true
}

// rootSpacesBy lists all elements.
func rootSpacesBy(a impl.Algebra, s impl.Matrix) ([][]int, []impl.Matrix) {
	var lists [][]int
	var spaces []impl.Matrix
	elements := allVectors(a.P, a.Dim)
	for _, list := range allVectors(a.P, s.Rows) {
		found := matrixOf(a.P, 0, a.Dim)
		for _, x := range elements {
			if isMultiplied(a, s, list, x) && !zeroVector(x) {
				found.Data = append(found.Data, x...)
				found.Rows++
			}
		}
		if found.Rows > 0 {
			lists = append(lists, list)
			spaces = append(spaces, spanOfMany(found))
		}
	}
	return lists, spaces
}

// isMultiplied says whether [s(k), x] is list[k] x for each row k.
func isMultiplied(a impl.Algebra, s impl.Matrix, list []int, x []int) bool {
	for k := range s.Rows {
		if !slices.Equal(bracketBy(a, row(s, k), x), multipleOf(a.P, list[k], x)) {
			return false
		}
	}
	return true
}

// spanOfMany takes a few rows at a time, since a matrix has at most 40.
func spanOfMany(m impl.Matrix) impl.Matrix {
	s := matrixOf(m.P, 0, m.Cols)
	for i := range m.Rows {
		s = impl.SpanOf(matrixOf(m.P, s.Rows+1, m.Cols, slices.Concat(s.Data, row(m, i))...))
	}
	return s
}

// residueSystem has roots that are lists of residues modulo p, by their texts.
type residueSystem struct {
	p     int
	roots [][]int
	known map[string]bool
}

func (r residueSystem) stepped(y []int, n int, x []int) []int {
	return plus(r.p, y, multipleOf(r.p, n, x))
}

func (r residueSystem) number(x []int, y []int) int {
	if slices.Equal(x, y) {
		return 2
	}
	if zeroVector(plus(r.p, x, y)) {
		return -2
	}
	number := 0
	for _, sign := range []int{-1, 1} {
		for n := 1; n <= 3 && r.known[text(r.stepped(y, sign*n, x))]; n++ {
			number -= sign
		}
	}
	return number
}

func (r residueSystem) positive() [][]int {
	var list [][]int
	for _, y := range r.roots {
		for _, x := range r.roots {
			if n := r.number(x, y); n != 0 {
				if n > 0 {
					list = append(list, y)
				}
				break
			}
		}
	}
	return list
}

func (r residueSystem) simple() [][]int {
	sums := map[string]bool{}
	for _, x := range r.positive() {
		for _, y := range r.positive() {
			sums[text(plus(r.p, x, y))] = true
		}
	}
	return slices.DeleteFunc(r.positive(), func(x []int) bool { return sums[text(x)] })
}

// typeBy says by the document's words what TypeOfAlgebra must say, but for what RootSpaces says.
func typeBy(a impl.Algebra, s impl.Matrix) string {
	lists, spaces := impl.RootSpaces(a, s)
	r := residueSystem{p: a.P, known: map[string]bool{}}
	hasZeros := false
	for i, list := range lists {
		if zeroVector(list) {
			hasZeros = sameMatrix(spaces[i], s)
			continue
		}
		if spaces[i].Rows != 1 {
			return ""
		}
		r.roots = append(r.roots, list)
		r.known[text(list)] = true
	}
	if a.P < 5 || !toralBy(a, s) || !hasZeros {
		return ""
	}
	for _, x := range r.roots {
		if !r.known[text(multipleOf(a.P, -1, x))] {
			return ""
		}
	}
	simple := r.simple()
	if len(simple) < 1 || len(simple) > 4 || len(simple) != s.Rows {
		return ""
	}
	c := impl.Cartan{Rank: len(simple)}
	for _, x := range simple {
		for _, y := range simple {
			c.Data = append(c.Data, r.number(x, y))
		}
	}
	return impl.TypeOf(c)
}

// joinedName is the name of the type that has the parts of some others.
func joinedName(names ...string) string {
	parts := strings.Split(strings.Join(names, "+"), "+")
	slices.Sort(parts)
	return strings.Join(parts, "+")
}
