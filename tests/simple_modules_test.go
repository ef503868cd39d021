package tests

import (
	"math"
	"math/rand/v2"
	"slices"
	"sync"
	"testing"

	"loop.example/g03109/impl"
)

// levelModule is built by the document's words. Its vectors have room for 30 basis vectors and one more.
type levelModule struct {
	*rootTable
	p       int
	weights [][]int
	up      [][][]int // what e(0), e(1), .. make of each basis vector
	down    [][][]int // what e(-0), e(-1), .. make of it
}

func (x *levelModule) zeros() [][]int {
	return mapEach(upTo(x.c.Rank), func(int) []int { return make([]int, 31) })
}

func (x *levelModule) add(weight []int, up [][]int) int {
	x.weights = append(x.weights, weight)
	x.up = append(x.up, up)
	x.down = append(x.down, x.zeros())
	return len(x.weights) - 1
}

// candidate has what e(0), e(1), .. make of what e(-i) makes of the basis vector b.
func (x *levelModule) candidate(b int, i int) [][]int {
	up := x.zeros()
	for j := range up {
		for k, n := range x.up[b][j] {
			if n != 0 {
				up[j] = plus(x.p, up[j], multipleOf(x.p, n, x.down[k][i]))
			}
		}
		if i == j {
			up[j][b] = impl.Residue(up[j][b]+x.weights[b][i], x.p)
		}
	}
	return up
}

// sumOf returns the numbers by which the basis vectors are multiplied in the sum that is the candidate, if there are such.
func (x *levelModule) sumOf(level []int, last []int, up [][]int) ([]int, bool) {
	flat := func(up [][]int) []int {
		var list []int
		for _, v := range up {
			for _, b := range last {
				list = append(list, v[b])
			}
		}
		return list
	}
	m := matrixOf(x.p, 0, x.c.Rank*len(last))
	for _, b := range level {
		m.Data = append(m.Data, flat(x.up[b])...)
		m.Rows++
	}
	return impl.SolveMatrix(impl.TransposeMatrix(m), flat(up))
}

func levelModuleOf(r *rootTable, p int, w []int) *levelModule {
	x := &levelModule{rootTable: r, p: p}
	level := []int{x.add(w, x.zeros())}
	for len(level) > 0 {
		var next []int
		for _, b := range level {
			for i := range r.c.Rank {
				up := x.candidate(b, i)
				if numbers, ok := x.sumOf(next, level, up); ok {
					for k, n := range numbers {
						x.down[b][i][next[k]] = n
					}
					continue
				}
				next = append(next, x.add(stepped(x.weights[b], -1, weightBy(r.c, unitVector(r.c.Rank, i))), up))
				x.down[b][i][next[len(next)-1]] = 1
			}
		}
		level = next
	}
	return x
}

// square takes a row for each basis vector.
func (x *levelModule) square(row func(b int) []int) impl.Matrix {
	m := matrixOf(x.p, len(x.weights), len(x.weights))
	for b := range x.weights {
		m.Data = append(m.Data, row(b)[:m.Cols]...)
	}
	return m
}

func (x *levelModule) matrices() []impl.Matrix {
	list := make([]impl.Matrix, x.dim())
	for i := range x.c.Rank {
		list[x.at(i)] = x.square(func(b int) []int { return x.up[b][i] })
		list[x.at(x.opposite(i))] = x.square(func(b int) []int { return x.down[b][i] })
		list[x.positive()+i] = x.square(func(b int) []int { return multipleOf(x.p, x.weights[b][i], unitVector(len(x.weights), b)) })
	}
	for z := x.c.Rank; z < x.positive(); z++ {
		first := 0
		for x.sum(z, x.opposite(first)) < 0 || x.sum(z, x.opposite(first)) >= x.positive() {
			first++
		}
		second := x.sum(z, x.opposite(first))
		list[x.at(z)] = x.bracket(list, first, second)
		list[x.at(x.opposite(z))] = x.bracket(list, x.opposite(first), x.opposite(second))
	}
	return list
}

// bracket is that of two roots, divided by their constant.
func (x *levelModule) bracket(list []impl.Matrix, i int, j int) impl.Matrix {
	a, b := list[x.at(i)], list[x.at(j)]
	difference := differenceOf(multiply(b, a), multiply(a, b))
	difference.Data = multipleOf(x.p, impl.InverseOf(x.n[i][j], x.p), difference.Data)
	return difference
}

// highestOf has the highest weights whose dimension is at most MaxModule, for each table.
var highestOf = sync.OnceValue(func() map[*rootTable][][]int {
	lists := map[*rootTable][][]int{}
	for _, r := range rootTables() {
		lists[r] = slices.DeleteFunc(allVectors(4, r.c.Rank), func(w []int) bool { return dimensionBy(r.knownType, w).Int64() > 30 })
	}
	return lists
})

func (r *rootTable) smallHighest() [][]int { return highestOf()[r] }

// eachSimple has all highest weights for all types, of those with many parts some.
func eachSimple(seed uint64, f func(r *rand.Rand, table *rootTable, w []int)) {
	r := newRandom(seed)
	for i, table := range smallTables() {
		for j, w := range table.smallHighest() {
			if table.c.Rank < 3 || len(table.parts) < 2 || (i+j)%9 == 0 {
				f(r, table, w)
			}
		}
	}
}

var modulePrimes = []int{101, 103, 997, 10007}

func TestSimpleModules(t *testing.T) {
	count := 0
	eachSimple(1030, func(r *rand.Rand, table *rootTable, w []int) {
		p := modulePrimes[r.IntN(len(modulePrimes))]
		m, ok := impl.SimpleModule(table.c, p, w)
		if !ok || len(m) != table.dim() || int64(m[0].Rows) != dimensionBy(table.knownType, w).Int64() {
			t.Fatal(table.c, p, w, m, ok)
		}
		if table.c.Rank < 4 || r.IntN(4) == 0 {
			mustModule(t, table.name(), table.table(p), m, ok, levelModuleOf(table, p, w).matrices())
		} else if !impl.IsModule(table.table(p), m) {
			t.Error(table.c, p, w)
		}
		count++
	})
	if count < 300 {
		t.Error(count)
	}
}

// TestSimpleModulesModuloAll has many primes.
func TestSimpleModulesModuloAll(t *testing.T) {
	for i, name := range []string{"A1", "A2", "B2", "G2", "A1+A1", "A3", "B3", "C3", "A4", "D4"} {
		table := namedTable(name)
		all := table.smallHighest()
		for j, p := range primesBelow(10008) {
			if (i+j)%16 > 0 {
				continue
			}
			w := all[(i+j/16)%len(all)]
			m, ok := impl.SimpleModule(table.c, p, w)
			if p < 101 {
				mustNoModule(t, p, m, ok)
				continue
			}
			if !ok || !impl.IsModule(table.table(p), m) || int64(m[0].Rows) != dimensionBy(table.knownType, w).Int64() {
				t.Error(name, p, w, m, ok)
			}
		}
	}
}

func TestExamplesOfSimpleModules(t *testing.T) {
	for _, e := range []struct {
		name string
		p    int
		w    []int
		want []impl.Matrix
	}{
		{"A1", 101, []int{0}, squares(101, 1, []int{0}, []int{0}, []int{0})},
		{"A1", 101, []int{1}, sl2Module(101, 1)},
		{"A1", 103, []int{2}, sl2Module(103, 2)},
		{"A1", 10007, []int{3}, sl2Module(10007, 3)},
		// The basis vectors are v, what e(-0) makes of v, and what e(-1) makes of that. The order of e is that of 1 0, 0 1 and 1 1.
		{"A2", 101, []int{1, 0}, squares(101, 3, []int{0, 0, 0, 1, 0, 0, 0, 0, 0}, []int{0, 0, 0, 0, 0, 0, 0, 1, 0}, []int{0, 0, 0, 0, 0, 0, 1, 0, 0},
			[]int{1, 0, 0, 0, 100, 0, 0, 0, 0}, []int{0, 0, 0, 0, 1, 0, 0, 0, 100}, []int{0, 1, 0, 0, 0, 0, 0, 0, 0}, []int{0, 0, 0, 0, 0, 1, 0, 0, 0}, []int{0, 0, 1, 0, 0, 0, 0, 0, 0})},
		{"A1+A1", 101, []int{1, 1}, squares(101, 4, []int{0, 0, 0, 0, 1, 0, 0, 0, 0, 0, 0, 0, 0, 0, 1, 0}, []int{0, 0, 0, 0, 0, 0, 0, 0, 1, 0, 0, 0, 0, 1, 0, 0},
			[]int{1, 0, 0, 0, 0, 100, 0, 0, 0, 0, 1, 0, 0, 0, 0, 100}, []int{1, 0, 0, 0, 0, 1, 0, 0, 0, 0, 100, 0, 0, 0, 0, 100},
			[]int{0, 1, 0, 0, 0, 0, 0, 0, 0, 0, 0, 1, 0, 0, 0, 0}, []int{0, 0, 1, 0, 0, 0, 0, 1, 0, 0, 0, 0, 0, 0, 0, 0})},
	} {
		got, ok := impl.SimpleModule(cartanNamed(t, e.name), e.p, e.w)
		mustModule(t, e.name, namedTable(e.name).table(e.p), got, ok, e.want)
	}
}

// TestSizesOfSimpleModules has dimensions at MaxModule, and above.
func TestSizesOfSimpleModules(t *testing.T) {
	for _, e := range []struct {
		name string
		w    []int
		want int
	}{
		{"A1+A2", []int{1, 2, 1}, 30}, {"A2+A1", []int{2, 1, 1}, 30}, {"A1+A1", []int{3, 3}, 16}, {"D4", []int{0, 1, 0, 0}, 28}, {"G2", []int{2, 0}, 27}, {"A2", []int{2, 2}, 27}, {"A4", []int{1, 0, 0, 1}, 24}, {"B3", []int{2, 0, 0}, 27}, {"B2", []int{3, 0}, 30},
		{"A1+A1+A1", []int{3, 3, 1}, 0}, {"A1+A2", []int{3, 1, 1}, 0}, {"A1+B2", []int{1, 1, 1}, 0}, {"G2", []int{1, 1}, 0}, {"B2", []int{1, 2}, 0}, {"B3", []int{0, 0, 2}, 0}, {"D4", []int{0, 0, 0, 2}, 0}, {"A4", []int{1, 1, 0, 0}, 0},
		// No highest weight has the dimension 31; these have 32.
		{"A1+A1+A1+A1", []int{3, 1, 1, 1}, 0}, {"A1+A1+A1+A1", []int{2, 1, 1, 1}, 24}, {"A2+A2", []int{3, 0, 1, 0}, 30}, {"A2+A2", []int{1, 1, 1, 1}, 0}, {"A2", []int{3, 2}, 0},
		// There are no tables of these.
		{"F4", []int{0, 0, 0, 1}, 0}, {"F4", []int{0, 0, 0, 0}, 0}, {"B4", []int{1, 0, 0, 0}, 0}, {"C4", []int{1, 0, 0, 0}, 0}, {"C4", []int{0, 0, 0, 0}, 0},
	} {
		c := cartanNamed(t, e.name)
		m, ok := impl.SimpleModule(c, 101, e.w)
		if e.want == 0 {
			mustNoModule(t, e.name, m, ok)
			continue
		}
		if !ok || m[0].Rows != e.want {
			t.Error(e.name, e.w, m, ok)
		}
	}
}

func TestPrimesOfSimpleModules(t *testing.T) {
	for _, name := range []string{"A1", "B2", "A1+A2"} {
		c := cartanNamed(t, name)
		for _, p := range append(noPrimes, 2, 3, 5, 7, 89, 97, 99, 100, 102, 111, 121, 10003, 10008) {
			m, ok := impl.SimpleModule(c, p, unitVector(c.Rank, 0))
			mustNoModule(t, p, m, ok)
		}
		for _, p := range []int{101, 103, 10007} {
			m, ok := impl.SimpleModule(c, p, unitVector(c.Rank, 0))
			if !ok {
				t.Error(p, m)
			}
		}
	}
}

func TestNoHighestWeightsOfModules(t *testing.T) {
	for _, table := range smallTables() {
		for _, w := range noHighest(table.c.Rank) {
			m, ok := impl.SimpleModule(table.c, 101, w)
			mustNoModule(t, w, m, ok)
		}
	}
	for _, c := range noCartans() {
		for _, w := range [][]int{nil, {0}, {1}, {0, 0}, {0, 0, 0}, {0, 0, 0, 0}, {math.MaxInt}} {
			m, ok := impl.SimpleModule(c, 101, w)
			mustNoModule(t, c, m, ok)
		}
	}
}

// TestSimpleModulesStayTogether says that each vector generates all others, and that only multiples of one map go into
// the same module.
func TestSimpleModulesStayTogether(t *testing.T) {
	eachSimple(1031, func(r *rand.Rand, table *rootTable, w []int) {
		if table.c.Rank == 4 && r.IntN(4) > 0 {
			return
		}
		p := modulePrimes[r.IntN(len(modulePrimes))]
		a := table.table(p)
		m, _ := impl.SimpleModule(table.c, p, w)
		size := m[0].Rows
		for _, v := range [][]int{unitVector(size, 0), unitVector(size, size-1), unitVector(size, r.IntN(size)), randomVector(r, p, size)} {
			if zeroVector(v) {
				continue
			}
			s, ok := impl.SubmoduleBy(a, m, matrixOf(p, 1, size, v...))
			mustMatrix(t, table.name(), s, ok, impl.UnitMatrix(p, size))
		}
		if size <= 8 {
			mustLists(t, table.name(), impl.MapsBetween(a, m, m), [][]int{impl.UnitMatrix(p, size).Data})
			dual, _ := impl.SimpleModule(table.c, p, impl.DualWeight(table.c, w))
			maps := impl.MapsBetween(a, impl.DualModule(a, m), dual)
			if len(maps) != 1 || impl.RankOf(matrixOf(p, size, size, maps[0]...)) != size {
				t.Error(table.c, w, maps)
			}
		}
	})
}

func TestMapsBetweenSimpleModules(t *testing.T) {
	r := newRandom(1032)
	count := 0
	for _, table := range smallTables() {
		a := table.table(101)
		modules := mapEach(table.smallHighest(), func(w []int) []impl.Matrix {
			m, _ := impl.SimpleModule(table.c, 101, w)
			return m
		})
		for i, m := range modules {
			for j, n := range modules {
				if m[0].Rows*n[0].Rows > 64 || i == j || r.IntN(2*table.c.Rank*table.c.Rank-1) > 0 {
					continue
				}
				mustLists(t, table.name(), impl.MapsBetween(a, m, n), nil)
				count++
			}
		}
	}
	if count < 200 {
		t.Error(count)
	}
}

// casimirNumber is the sum over all parts of (w, w + 2 r) / (z, z + 2 r) modulo p, where r is the weight of ones, z the
// highest root, and the product that of weights.
func (r *rootTable) casimirNumber(p int, w []int) int {
	rank, first, sum := r.c.Rank, 0, 0
	columns := matrixOf(p, rank, rank, residues(slices.Clone(r.c.Data), p)...)
	inner := func(x []int) int {
		c, _ := impl.SolveMatrix(columns, residues(slices.Clone(x), p))
		product := 0
		for i := range rank {
			product += c[i] * r.lengths[i] % p * impl.Residue(x[i]+2, p)
		}
		return product % p
	}
	for _, part := range r.parts {
		x, z := make([]int, rank), make([]int, rank)
		copy(x[first:first+part.rank()], w[first:first+part.rank()])
		copy(z[first:], part.highest)
		first += part.rank()
		sum += inner(x) * impl.InverseOf(inner(weightBy(r.c, z)), p)
	}
	return sum % p
}

func TestCasimirOfSimpleModules(t *testing.T) {
	for _, table := range smallTables() {
		// The numbers of parts are known for rows in their usual order only.
		if !slices.Equal(table.c.Data, joinedType(table.parts).c.Data) {
			continue
		}
		for j, w := range table.smallHighest() {
			if table.c.Rank > 2 && len(table.parts) > 1 && j%7 > 0 {
				continue
			}
			p := modulePrimes[j%4]
			m, _ := impl.SimpleModule(table.c, p, w)
			got, ok := impl.CasimirOf(table.table(p), m)
			mustMatrix(t, table.name(), got, ok, impl.ScaleMatrix(impl.UnitMatrix(p, m[0].Rows), table.casimirNumber(p, w)))
		}
	}
	for _, e := range []struct {
		name       string
		w          []int
		over, from int
	}{{"A1", []int{1}, 3, 8}, {"A1", []int{2}, 1, 1}, {"A1", []int{3}, 15, 8}, {"A2", []int{1, 0}, 4, 9}, {"A2", []int{1, 1}, 1, 1}, {"G2", []int{1, 0}, 1, 2}, {"G2", []int{0, 1}, 1, 1}, {"B2", []int{0, 1}, 5, 12}, {"D4", []int{0, 0, 1, 0}, 7, 12}, {"A1+A1", []int{1, 2}, 11, 8}, {"A2", []int{0, 0}, 0, 1}} {
		table := namedTable(e.name)
		want := e.over * impl.InverseOf(e.from, 101) % 101
		if got := table.casimirNumber(101, e.w); got != want {
			t.Error(e, got, want)
		}
		m, _ := impl.SimpleModule(table.c, 101, e.w)
		got, ok := impl.CasimirOf(table.table(101), m)
		mustMatrix(t, e.name, got, ok, impl.ScaleMatrix(impl.UnitMatrix(101, m[0].Rows), want))
	}
}
