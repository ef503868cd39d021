package tests

import (
	"math"
	"math/rand/v2"
	"slices"
	"strings"
	"testing"

	"loop.example/g03109/impl"
)

// knownPart is a type of one part, with what the books say of it.
type knownPart struct {
	name      string
	data      []int
	lengths   []int
	highest   []int
	exponents []int
}

func (k knownPart) rank() int { return len(k.lengths) }

func knownParts() []knownPart {
	return []knownPart{
		{"A1", []int{2}, []int{1}, []int{1}, []int{1}},
		{"A2", []int{2, -1, -1, 2}, []int{1, 1}, []int{1, 1}, []int{1, 2}},
		{"A3", []int{2, -1, 0, -1, 2, -1, 0, -1, 2}, []int{1, 1, 1}, []int{1, 1, 1}, []int{1, 2, 3}},
		{"A4", []int{2, -1, 0, 0, -1, 2, -1, 0, 0, -1, 2, -1, 0, 0, -1, 2}, []int{1, 1, 1, 1}, []int{1, 1, 1, 1}, []int{1, 2, 3, 4}},
		{"B2", []int{2, -1, -2, 2}, []int{2, 1}, []int{1, 2}, []int{1, 3}},
		{"B3", []int{2, -1, 0, -1, 2, -1, 0, -2, 2}, []int{2, 2, 1}, []int{1, 2, 2}, []int{1, 3, 5}},
		{"B4", []int{2, -1, 0, 0, -1, 2, -1, 0, 0, -1, 2, -1, 0, 0, -2, 2}, []int{2, 2, 2, 1}, []int{1, 2, 2, 2}, []int{1, 3, 5, 7}},
		{"C3", []int{2, -1, 0, -1, 2, -2, 0, -1, 2}, []int{1, 1, 2}, []int{2, 2, 1}, []int{1, 3, 5}},
		{"C4", []int{2, -1, 0, 0, -1, 2, -1, 0, 0, -1, 2, -2, 0, 0, -1, 2}, []int{1, 1, 1, 2}, []int{2, 2, 2, 1}, []int{1, 3, 5, 7}},
		{"D4", []int{2, -1, 0, 0, -1, 2, -1, -1, 0, -1, 2, 0, 0, -1, 0, 2}, []int{1, 1, 1, 1}, []int{1, 2, 1, 1}, []int{1, 3, 3, 5}},
		{"F4", []int{2, -1, 0, 0, -1, 2, -1, 0, 0, -2, 2, -1, 0, 0, -1, 2}, []int{2, 2, 1, 1}, []int{2, 3, 4, 2}, []int{1, 5, 7, 11}},
		{"G2", []int{2, -3, -1, 2}, []int{1, 3}, []int{3, 2}, []int{1, 5}},
	}
}

// knownType is a type with its matrix after its rows were put into some order.
type knownType struct {
	parts   []knownPart
	c       impl.Cartan
	lengths []int
}

// name has the parts in the order that they were given in.
func (k knownType) name() string { return strings.Join(k.partNames(), "+") }

func (k knownType) partNames() []string {
	var names []string
	for _, part := range k.parts {
		names = append(names, part.name)
	}
	return names
}

func (k knownType) sortedName() string {
	names := k.partNames()
	slices.Sort(names)
	return strings.Join(names, "+")
}

// exponents are those of all parts together.
func (k knownType) exponents() []int {
	var list []int
	for _, part := range k.parts {
		list = append(list, part.exponents...)
	}
	slices.Sort(list)
	return list
}

// reordered has at row i what was at row order[i].
func (k knownType) reordered(order []int) knownType {
	c := impl.Cartan{Rank: k.c.Rank}
	var lengths []int
	for _, i := range order {
		lengths = append(lengths, k.lengths[i])
		for _, j := range order {
			c.Data = append(c.Data, entry(k.c, i, j))
		}
	}
	return knownType{k.parts, c, lengths}
}

func entry(c impl.Cartan, i int, j int) int { return c.Data[i*c.Rank+j] }

// knownTypes has all types, with their parts in each order.
func knownTypes() []knownType {
	var list []knownType
	var extend func(parts []knownPart, rank int)
	extend = func(parts []knownPart, rank int) {
		if rank > 0 {
			list = append(list, joinedType(parts))
		}
		for _, part := range knownParts() {
			if rank+part.rank() <= 4 {
				extend(slices.Concat(parts, []knownPart{part}), rank+part.rank())
			}
		}
	}
	extend(nil, 0)
	return list
}

func joinedType(parts []knownPart) knownType {
	k := knownType{parts: parts}
	for _, part := range parts {
		k.lengths = append(k.lengths, part.lengths...)
	}
	k.c = impl.Cartan{Rank: len(k.lengths), Data: make([]int, len(k.lengths)*len(k.lengths))}
	first := 0
	for _, part := range parts {
		for i, n := range part.data {
			k.c.Data[(first+i/part.rank())*k.c.Rank+first+i%part.rank()] = n
		}
		first += part.rank()
	}
	return k
}

func ordersOf(n int) [][]int {
	if n == 0 {
		return [][]int{nil}
	}
	var list [][]int
	for _, order := range ordersOf(n - 1) {
		for i := range n {
			list = append(list, slices.Insert(slices.Clone(order), i, n-1))
		}
	}
	return list
}

// reorderedTypes has each Cartan matrix once.
func reorderedTypes() []knownType {
	var list []knownType
	seen := map[string]bool{}
	for _, k := range knownTypes() {
		for _, order := range ordersOf(k.c.Rank) {
			other := k.reordered(order)
			if s := text(other.c.Data); !seen[s] {
				seen[s] = true
				list = append(list, other)
			}
		}
	}
	return list
}

// reflectedBy is the simple reflection i, as the document defines it.
func reflectedBy(c impl.Cartan, i int, x []int) []int {
	y := slices.Clone(x)
	y[i] -= weightBy(c, x)[i]
	return y
}

func weightBy(c impl.Cartan, x []int) []int {
	w := make([]int, c.Rank)
	for i := range c.Rank {
		for j := range c.Rank {
			w[i] += entry(c, i, j) * x[j]
		}
	}
	return w
}

// rootsBy has all that simple reflections make of simple roots, by their texts.
func rootsBy(c impl.Cartan) map[string][]int {
	found := map[string][]int{}
	var visit func(x []int)
	visit = func(x []int) {
		if _, known := found[text(x)]; known {
			return
		}
		found[text(x)] = x
		for i := range c.Rank {
			visit(reflectedBy(c, i, x))
		}
	}
	for i := range c.Rank {
		visit(unitVector(c.Rank, i))
	}
	return found
}

func innerBy(k knownType, x []int, y []int) int {
	sum := 0
	for i := range k.c.Rank {
		for j := range k.c.Rank {
			sum += x[i] * y[j] * k.lengths[i] * entry(k.c, i, j)
		}
	}
	return sum
}

// stepped returns x plus n times r.
func stepped(x []int, n int, r []int) []int {
	y := slices.Clone(x)
	for i := range y {
		y[i] += n * r[i]
	}
	return y
}

func sumOfNumbers(x []int) int {
	sum := 0
	for _, n := range x {
		sum += n
	}
	return sum
}

func randomLattice(r *rand.Rand, rank int) []int {
	x := make([]int, rank)
	for i := range x {
		x[i] = []int{r.IntN(2001) - 1000, r.IntN(7) - 3, 1000, -1000, 0}[r.IntN(5)]
	}
	return x
}

// noLattice has lists that are no lattice elements of this rank, and so no roots.
func noLattice(rank int) [][]int {
	list := [][]int{nil, make([]int, rank-1), make([]int, rank+1), append([]int{1}, make([]int, rank)...), append(make([]int, rank), 1)}
	if rank > 1 {
		list = append(list, unitVector(rank-1, 0))
	}
	for i := range rank {
		for _, n := range []int{1001, -1001, math.MinInt, math.MaxInt, 1 << 32} {
			x := make([]int, rank)
			x[i] = n
			list = append(list, x)
		}
	}
	return list
}

// noRootsOf has lists that are no roots, the lattice elements among them.
func noRootsOf(c impl.Cartan) [][]int {
	list := append(noLattice(c.Rank), make([]int, c.Rank))
	for i := range c.Rank {
		list = append(list, stepped(make([]int, c.Rank), 2, unitVector(c.Rank, i)), stepped(make([]int, c.Rank), -1000, unitVector(c.Rank, i)))
	}
	if c.Rank > 1 {
		list = append(list, stepped(unitVector(c.Rank, 0), -1, unitVector(c.Rank, 1)))
	}
	return list
}

func cartanNamed(t *testing.T, name string) impl.Cartan {
	t.Helper()
	c, ok := impl.CartanOf(name)
	if !ok {
		t.Fatal(name)
	}
	return c
}
