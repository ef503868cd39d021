package tests

import (
	"math"
	"slices"
	"strings"
	"testing"

	"loop.example/g03109/impl"
)

func TestMaxRank(t *testing.T) {
	if impl.MaxRank != 4 {
		t.Error(impl.MaxRank)
	}
}

func mustCartan(t *testing.T, name string, data ...int) {
	t.Helper()
	c, ok := impl.CartanOf(name)
	rank := int(math.Sqrt(float64(len(data))))
	if !ok || c.Rank != rank || !slices.Equal(c.Data, data) {
		t.Error(name, c, ok, data)
	}
}

func TestCartanOfOnePart(t *testing.T) {
	for _, part := range knownParts() {
		mustCartan(t, part.name, part.data...)
	}
}

func TestCartanOfSeveralParts(t *testing.T) {
	mustCartan(t, "A1+A1", 2, 0, 0, 2)
	mustCartan(t, "B2+A1", 2, -1, 0, -2, 2, 0, 0, 0, 2)
	mustCartan(t, "A1+B2", 2, 0, 0, 0, 2, -1, 0, -2, 2)
	mustCartan(t, "G2+B2", 2, -3, 0, 0, -1, 2, 0, 0, 0, 0, 2, -1, 0, 0, -2, 2)
	mustCartan(t, "C3+A1", 2, -1, 0, 0, -1, 2, -2, 0, 0, -1, 2, 0, 0, 0, 0, 2)
	mustCartan(t, "A1+A1+A1+A1", 2, 0, 0, 0, 0, 2, 0, 0, 0, 0, 2, 0, 0, 0, 0, 2)
	types := knownTypes()
	if len(types) != 45 {
		t.Error(len(types))
	}
	for _, k := range types {
		mustCartan(t, k.name(), k.c.Data...)
	}
}

// noType reports whether CartanOf fails with zero values.
func noType(name string) bool {
	c, ok := impl.CartanOf(name)
	return !ok && c.Rank == 0 && len(c.Data) == 0
}

func TestNamesThatAreNoTypes(t *testing.T) {
	names := []string{
		"", "+", "++", "A", "4", "A0", "A5", "A-1", "A+1", "A01", "A10", "A1A1", "1A", "a1", "A 1", "A1 ", " A1", "A1\n", "A1\x00", "\xff", "Ä1", "A１",
		"B1", "B5", "C1", "C2", "C5", "D1", "D2", "D3", "D5", "E6", "E7", "E8", "E4", "F1", "F2", "F3", "F5", "G1", "G3", "G4", "H4", "b2", "g2", "d4",
		"A1+", "+A1", "A1++A1", "A1+ A1", "A1 +A1", "A1,A1", "A1-A1", "A1*A1", "A1+B1", "C2+A1", "A2+D3", "A1+X1", "A1+A",
		"A5+A1", "A4+A1", "A1+A4", "B4+A1", "C4+A1", "D4+A1", "F4+A1", "A1+F4", "G2+A3", "B3+B2", "C3+G2", "A2+A2+A1", "A1+A2+A2", "A3+A1+A1", "A1+A1+A1+A1+A1", "A4+A4",
		"A1+A1+A1+A1+", "A4+", "A4+X", "X+A4", strings.Repeat("A1+", 1000) + "A1", strings.Repeat("+", 1000),
	}
	for _, name := range names {
		if !noType(name) {
			t.Error(name)
		}
	}
}

// TestShortNames asks for all names of few letters.
func TestShortNames(t *testing.T) {
	types := map[string]knownType{}
	for _, k := range knownTypes() {
		types[k.name()] = k
	}
	check := func(letters string, most int) {
		names := []string{""}
		for range most {
			var longer []string
			for _, name := range names {
				for _, letter := range letters {
					longer = append(longer, name+string(letter))
				}
			}
			for _, name := range longer {
				if k, known := types[name]; known {
					mustCartan(t, name, k.c.Data...)
				} else if !noType(name) {
					t.Error(name)
				}
			}
			names = longer
		}
	}
	check("ABCDEFGHabg0123456789+ -", 3)
	check("ABG12+", 5)
}

// namesByData has the sorted name of each Cartan matrix of a rank.
func namesByData(rank int) map[string]string {
	names := map[string]string{}
	for _, k := range reorderedTypes() {
		if k.c.Rank == rank {
			names[text(k.c.Data)] = k.sortedName()
		}
	}
	return names
}

// checkNamed checks that c is a Cartan matrix with a name if it is among the names, and none otherwise.
func checkNamed(t *testing.T, names map[string]string, c impl.Cartan) {
	t.Helper()
	name, known := names[text(c.Data)]
	if impl.IsCartan(c) != known || impl.TypeOf(c) != name || (len(impl.LengthsOf(c)) == 0) == known {
		t.Error(c, impl.IsCartan(c), impl.TypeOf(c), impl.LengthsOf(c), name)
	}
}

func TestAllMatricesOfRankOneAndTwo(t *testing.T) {
	for n := -6; n <= 6; n++ {
		checkNamed(t, namesByData(1), impl.Cartan{Rank: 1, Data: []int{n}})
	}
	names := namesByData(2)
	if len(names) != 6 {
		t.Error(names)
	}
	for _, v := range allVectors(9, 4) {
		for i := range v {
			v[i] -= 5
		}
		checkNamed(t, names, impl.Cartan{Rank: 2, Data: v})
	}
}

func TestMatricesOfRankThree(t *testing.T) {
	names := namesByData(3)
	for _, v := range allVectors(5, 6) {
		for i := range v {
			v[i] -= 3
		}
		checkNamed(t, names, impl.Cartan{Rank: 3, Data: []int{2, v[0], v[1], v[2], 2, v[3], v[4], v[5], 2}})
	}
}

// TestMatricesOfRankFour has for each pair of rows the numbers that two neighbours may have, and some that they may not.
func TestMatricesOfRankFour(t *testing.T) {
	names := namesByData(4)
	pairs := [][2]int{{0, 0}, {-1, -1}, {-1, -2}, {-2, -1}, {-1, -3}, {-3, -1}, {0, -1}}
	found := 0
	for _, v := range allVectors(len(pairs), 6) {
		c := impl.Cartan{Rank: 4, Data: make([]int, 16)}
		place := 0
		for i := range 4 {
			c.Data[5*i] = 2
			for j := range i {
				c.Data[4*i+j], c.Data[4*j+i] = pairs[v[place]][0], pairs[v[place]][1]
				place++
			}
		}
		checkNamed(t, names, c)
		if impl.IsCartan(c) {
			found++
		}
	}
	if found != len(names) {
		t.Error(found, len(names))
	}
}

func TestMatricesWithOneNumberChanged(t *testing.T) {
	for rank := 1; rank <= 4; rank++ {
		names := namesByData(rank)
		for _, k := range reorderedTypes() {
			if k.c.Rank != rank {
				continue
			}
			for i := range k.c.Data {
				for _, n := range []int{-4, -3, -2, -1, 0, 1, 2, 3, 4} {
					c := impl.Cartan{Rank: rank, Data: slices.Clone(k.c.Data)}
					c.Data[i] = n
					checkNamed(t, names, c)
				}
				for _, n := range []int{math.MinInt, math.MaxInt, 1 << 32, 1<<32 + 2, -1 << 32} {
					c := impl.Cartan{Rank: rank, Data: slices.Clone(k.c.Data)}
					c.Data[i] = n
					checkNoCartan(t, c)
				}
			}
		}
	}
}

func checkNoCartan(t *testing.T, c impl.Cartan) {
	t.Helper()
	if impl.IsCartan(c) || impl.TypeOf(c) != "" || len(impl.LengthsOf(c)) != 0 {
		t.Error(c, impl.TypeOf(c), impl.LengthsOf(c))
	}
}

// noCartans has matrices of all kinds that are no Cartan matrices.
func noCartans() []impl.Cartan {
	list := []impl.Cartan{
		{}, {Rank: 0, Data: []int{}}, {Rank: 0, Data: []int{2}}, {Rank: 1}, {Rank: 1, Data: []int{2, 2}}, {Rank: 1, Data: []int{1}}, {Rank: 1, Data: []int{-2}},
		{Rank: -1, Data: []int{2}}, {Rank: -2, Data: []int{2, -1, -1, 2}}, {Rank: math.MinInt}, {Rank: math.MaxInt}, {Rank: 1 << 32}, {Rank: 1 << 32, Data: []int{2}},
		{Rank: 2, Data: []int{2}}, {Rank: 2, Data: []int{2, -1, -1}}, {Rank: 2, Data: []int{2, -1, -1, 2, 0}}, {Rank: 3, Data: []int{2, -1, -1, 2}}, {Rank: 1, Data: []int{2, -1, -1, 2}},
		{Rank: 2, Data: []int{2, -2, -2, 2}}, {Rank: 2, Data: []int{2, -4, -1, 2}}, {Rank: 2, Data: []int{2, 1, 1, 2}}, {Rank: 2, Data: []int{2, -1, 0, 2}}, {Rank: 2, Data: []int{2, 0, -1, 2}}, {Rank: 2, Data: []int{2, -1, -1, 3}}, {Rank: 2, Data: []int{-2, 1, 1, -2}},
		// Circles of three and four rows, and chains with too many numbers other than -1.
		{Rank: 3, Data: []int{2, -1, -1, -1, 2, -1, -1, -1, 2}},
		{Rank: 3, Data: []int{2, -2, 0, -1, 2, -1, 0, -2, 2}},
		{Rank: 3, Data: []int{2, -3, 0, -1, 2, -1, 0, -1, 2}},
		{Rank: 4, Data: []int{2, -1, 0, -1, -1, 2, -1, 0, 0, -1, 2, -1, -1, 0, -1, 2}},
		{Rank: 4, Data: []int{2, -1, 0, 0, -1, 2, -1, -2, 0, -1, 2, 0, 0, -1, 0, 2}},
		{Rank: 4, Data: []int{2, 0, 0, 0, 0, 2, -2, 0, 0, -2, 2, 0, 0, 0, 0, 2}},
	}
	five := impl.Cartan{Rank: 5, Data: make([]int, 25)}
	for i := range 5 {
		five.Data[6*i] = 2
	}
	chained := impl.Cartan{Rank: 5, Data: slices.Clone(five.Data)}
	for i := range 4 {
		chained.Data[5*i+i+1], chained.Data[5*i+5+i] = -1, -1
	}
	return append(list, five, chained)
}

func TestMatricesThatAreNoCartanMatrices(t *testing.T) {
	for _, c := range noCartans() {
		checkNoCartan(t, c)
	}
}

// TestTypesAreFoundAgain has all orders of the rows, so that those of different parts are mixed too.
func TestTypesAreFoundAgain(t *testing.T) {
	for _, k := range knownTypes() {
		c := cartanNamed(t, k.name())
		for _, order := range ordersOf(k.c.Rank) {
			other := k.reordered(order)
			name := impl.TypeOf(other.c)
			if !impl.IsCartan(other.c) || name != k.sortedName() {
				t.Error(k.name(), other.c, name)
			}
			mustVector(t, name, impl.LengthsOf(other.c), other.lengths)
			if again := impl.TypeOf(cartanNamed(t, name)); again != name {
				t.Error(name, again)
			}
		}
		mustVector(t, k.name(), impl.LengthsOf(c), k.lengths)
	}
}

func TestTypeOfIsSorted(t *testing.T) {
	for given, want := range map[string]string{
		"B2+A1": "A1+B2", "G2+A2": "A2+G2", "G2+B2": "B2+G2", "A2+A1": "A1+A2", "A2+A1+A1": "A1+A1+A2", "A1+B2+A1": "A1+A1+B2",
		"C3+A1": "A1+C3", "D4": "D4", "A3+A1": "A1+A3", "A1+A1": "A1+A1", "B2": "B2", "B2+B2": "B2+B2",
	} {
		if got := impl.TypeOf(cartanNamed(t, given)); got != want {
			t.Error(given, got)
		}
	}
	if got := impl.TypeOf(impl.Cartan{Rank: 4, Data: []int{2, 0, -1, 0, 0, 2, 0, -1, -3, 0, 2, 0, 0, -2, 0, 2}}); got != "B2+G2" {
		t.Error(got)
	}
}

// TestLengthsByDefinition checks the equations that determine the numbers.
func TestLengthsByDefinition(t *testing.T) {
	for _, k := range reorderedTypes() {
		d := impl.LengthsOf(k.c)
		if len(d) != k.c.Rank {
			t.Fatal(k.c, d)
		}
		for i := range d {
			least := d[i]
			for j := range d {
				if d[i]*entry(k.c, i, j) != d[j]*entry(k.c, j, i) {
					t.Error(k.c, d, i, j)
				}
				if inOnePart(k.c, i, j) {
					least = min(least, d[j])
				}
			}
			if least != 1 {
				t.Error(k.c, d, i)
			}
		}
	}
}

// inOnePart reports whether some root has both numbers.
func inOnePart(c impl.Cartan, i int, j int) bool {
	for _, x := range rootsBy(c) {
		if x[i] != 0 && x[j] != 0 {
			return true
		}
	}
	return false
}
