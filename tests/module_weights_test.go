package tests

import (
	"math/rand/v2"
	"slices"
	"testing"

	"loop.example/g03109/impl"
)

// weightsIn has the weights with numbers from -12 to 12 of the vectors in a space which each h(i) multiplies, found for all
// lists of such numbers that occur for one h(i) at least.
func weightsInBy(table *rootTable, m []impl.Matrix, space impl.Matrix) []impl.Term {
	spaces := map[spot]impl.Matrix{{}: space}
	for i := range table.c.Rank {
		finer := map[spot]impl.Matrix{}
		for w, s := range spaces {
			for n := -12; n <= 12; n++ {
				shifted := differenceOf(m[table.positive()+i], impl.ScaleMatrix(impl.UnitMatrix(s.P, s.Cols), n))
				// The vectors of s that are taken to 0 from the right.
				found, _ := impl.MeetSpaces(s, impl.KernelOf(impl.TransposeMatrix(shifted)))
				if found.Rows > 0 {
					w[i] = n
					finer[w] = found
				}
			}
		}
		spaces = finer
	}
	n := map[spot]int{}
	for w, s := range spaces {
		n[w] = s.Rows
	}
	return termsBy(table.c.Rank, n)
}

func killedByPositive(table *rootTable, m []impl.Matrix) impl.Matrix {
	s := impl.UnitMatrix(m[0].P, m[0].Rows)
	for _, x := range m[:table.positive()] {
		s, _ = impl.MeetSpaces(s, impl.KernelOf(impl.TransposeMatrix(x)))
	}
	return s
}

func TestWeightsOfSimpleModules(t *testing.T) {
	eachSimple(1040, func(r *rand.Rand, table *rootTable, w []int) {
		p := modulePrimes[r.IntN(len(modulePrimes))]
		m, _ := impl.SimpleModule(table.c, p, w)
		if r.IntN(2) > 0 {
			m = inBasis(r, m)
		}
		got, ok := impl.WeightsIn(table.c, p, m)
		mustTerms(t, table.name(), got, ok, impl.WeightsOf(table.c, w))
		got, ok = impl.HighestIn(table.c, p, m)
		mustTerms(t, table.name(), got, ok, []impl.Term{occurs(1, w...)})
		if r.IntN(4) > 0 {
			return
		}
		dual := impl.DualModule(table.table(p), m)
		got, ok = impl.WeightsIn(table.c, p, dual)
		mustTerms(t, table.name(), got, ok, impl.DualCharacter(table.c, impl.WeightsOf(table.c, w)))
		got, ok = impl.HighestIn(table.c, p, dual)
		mustTerms(t, table.name(), got, ok, []impl.Term{occurs(1, impl.DualWeight(table.c, w)...)})
	})
}

// TestHighestInTensors finds the terms of TensorOf in products of simple modules: in all of them for types of rank 2.
func TestHighestInTensors(t *testing.T) {
	r := newRandom(1041)
	count := 0
	for _, table := range smallTables() {
		all := table.smallHighest()
		for _, v := range all {
			for _, w := range all {
				size := dimensionBy(table.knownType, v).Int64() * dimensionBy(table.knownType, w).Int64()
				if size > 30 || table.c.Rank > 2 && r.IntN(6*table.c.Rank*table.c.Rank) > 0 {
					continue
				}
				p := modulePrimes[r.IntN(len(modulePrimes))]
				m, _ := impl.SimpleModule(table.c, p, v)
				n, _ := impl.SimpleModule(table.c, p, w)
				tensor, ok := impl.TensorModules(table.table(p), m, n)
				if !ok {
					t.Fatal(table.c, v, w)
				}
				want, _ := impl.TensorOf(table.c, v, w)
				got, ok := impl.HighestIn(table.c, p, tensor)
				mustTerms(t, table.name(), got, ok, want)
				want, _ = impl.MulCharacters(table.c, impl.WeightsOf(table.c, v), impl.WeightsOf(table.c, w))
				got, ok = impl.WeightsIn(table.c, p, tensor)
				mustTerms(t, table.name(), got, ok, want)
				count++
			}
		}
	}
	if count < 300 {
		t.Error(count)
	}
}

// TestWeightsInSums has sums of simple modules in random bases, with their quotients and submodules.
func TestWeightsInSums(t *testing.T) {
	r := newRandom(1042)
	for _, name := range []string{"A1", "A2", "B2", "G2", "A1+A1", "A3", "B3", "A1+A2", "A1+A1+A1"} {
		table := namedTable(name)
		all := table.smallHighest()
		for range 7 - 2*table.c.Rank {
			p := modulePrimes[r.IntN(len(modulePrimes))]
			a := table.table(p)
			m, highest, weights := zeroModuleBy(a, 0), map[spot]int{}, map[spot]int{}
			var last []impl.Matrix
			for range 12 {
				w := all[r.IntN(len(all))]
				n, _ := impl.SimpleModule(table.c, p, w)
				if m[0].Rows+n[0].Rows > 30 {
					continue
				}
				m, last = sumBy(m, n), n
				highest[spotOf(w)]++
				for _, term := range impl.WeightsOf(table.c, w) {
					weights[spotOf(term.Weight)] += term.Count
				}
			}
			mixed := inBasis(r, m)
			got, ok := impl.WeightsIn(table.c, p, mixed)
			mustTerms(t, name, got, ok, termsBy(table.c.Rank, weights))
			mustTerms(t, name, got, ok, weightsInBy(table, mixed, impl.UnitMatrix(p, m[0].Rows)))
			got, ok = impl.HighestIn(table.c, p, mixed)
			mustTerms(t, name, got, ok, termsBy(table.c.Rank, highest))
			mustTerms(t, name, got, ok, weightsInBy(table, mixed, killedByPositive(table, mixed)))
			// The last part is a submodule, and the others are the quotient by it.
			rows := unitRows(p, m[0].Rows, upTo(m[0].Rows)[m[0].Rows-last[0].Rows:]...)
			part, ok := impl.RestrictTo(a, m, rows)
			mustModule(t, name, a, part, ok, last)
			rest, _ := impl.QuotientModule(a, m, rows)
			top, ok := impl.HighestIn(table.c, p, rest)
			one, fine := impl.HighestIn(table.c, p, last)
			sum, _ := impl.AddCharacters(table.c, top, one)
			mustTerms(t, name, sum, ok && fine, termsBy(table.c.Rank, highest))
		}
	}
}

func TestWeightsInAdjointModules(t *testing.T) {
	for _, table := range smallTables() {
		m := impl.AdjointModule(table.table(101))
		n := map[spot]int{{}: table.c.Rank}
		for _, x := range table.roots {
			n[spotOf(weightBy(table.c, x))]++
		}
		got, ok := impl.WeightsIn(table.c, 101, m)
		mustTerms(t, table.name(), got, ok, termsBy(table.c.Rank, n))
		got, ok = impl.HighestIn(table.c, 101, m)
		mustTerms(t, table.name(), got, ok, weightsInBy(table, m, killedByPositive(table, m)))
		if len(got) != len(table.parts) {
			t.Error(table.name(), got)
		}
	}
}

// TestWeightsBeyond has modules whose weights have the numbers 12 and 13, and more.
func TestWeightsBeyond(t *testing.T) {
	c := cartanNamed(t, "A1")
	for _, p := range modulePrimes {
		a := namedTable("A1").table(p)
		for n := range 30 {
			m := sl2Module(p, n)
			if !impl.IsModule(a, m) {
				t.Fatal(p, n)
			}
			weights, ok := impl.WeightsIn(c, p, m)
			highest, fine := impl.HighestIn(c, p, m)
			if n > 12 {
				mustNoTerms(t, n, weights, ok)
				mustNoTerms(t, n, highest, fine)
				continue
			}
			var want []impl.Term
			for k := range n + 1 {
				want = append(want, occurs(1, n-2*k))
			}
			mustTerms(t, n, weights, ok, want)
			mustTerms(t, n, highest, fine, []impl.Term{occurs(1, n)})
		}
		got, ok := impl.HighestIn(c, p, sumBy(sl2Module(p, 13), sl2Module(p, 1)))
		mustNoTerms(t, "13 and 1", got, ok)
		got, ok = impl.HighestIn(c, p, sumBy(sl2Module(p, 12), sl2Module(p, 12)))
		mustTerms(t, "12 and 12", got, ok, []impl.Term{occurs(2, 12)})
		got, ok = impl.WeightsIn(c, p, sumBy(sl2Module(p, 1), sl2Module(p, 13)))
		mustNoTerms(t, "1 and 13", got, ok)
	}
	// Both rows have numbers of their own.
	two := namedTable("A1+A1")
	for _, sizes := range [][2]int{{12, 1}, {1, 12}, {13, 1}, {1, 13}} {
		m := twoRows(101, sizes[0], sizes[1])
		if !impl.IsModule(two.table(101), m) {
			t.Fatal(sizes)
		}
		got, ok := impl.HighestIn(two.c, 101, m)
		if max(sizes[0], sizes[1]) > 12 {
			mustNoTerms(t, sizes, got, ok)
			continue
		}
		mustTerms(t, sizes, got, ok, []impl.Term{occurs(1, sizes[0], sizes[1])})
	}
}

// twoRows is the module of A1+A1 with the highest weight m n: each part acts on its own factor of a product.
func twoRows(p int, m int, n int) []impl.Matrix {
	line := impl.Algebra{P: p, Dim: 3}
	first := tensorModuleBy(sl2Module(p, m), zeroModuleBy(line, n+1))
	second := tensorModuleBy(zeroModuleBy(line, m+1), sl2Module(p, n))
	return []impl.Matrix{first[0], second[0], first[1], second[1], first[2], second[2]}
}

func TestWeightsInZeroModules(t *testing.T) {
	for _, name := range []string{"A1", "G2", "A1+A1+A1+A1", "D4"} {
		table := namedTable(name)
		for _, n := range []int{0, 1, 30} {
			var want []impl.Term
			if n > 0 {
				want = []impl.Term{occurs(n, make([]int, table.c.Rank)...)}
			}
			m := zeroModuleBy(table.table(101), n)
			got, ok := impl.WeightsIn(table.c, 101, m)
			mustTerms(t, name, got, ok, want)
			got, ok = impl.HighestIn(table.c, 101, m)
			mustTerms(t, name, got, ok, want)
		}
	}
}

func TestWeightsInNoModules(t *testing.T) {
	table := namedTable("A1")
	check := func(what any, c impl.Cartan, p int, m []impl.Matrix) {
		t.Helper()
		got, ok := impl.WeightsIn(c, p, m)
		mustNoTerms(t, what, got, ok)
		got, ok = impl.HighestIn(c, p, m)
		mustNoTerms(t, what, got, ok)
	}
	for _, m := range noModules() {
		// These are lists for the order h, e, f.
		if len(m) == 3 {
			m = []impl.Matrix{m[1], m[0], m[2]}
		}
		check("no module", table.c, 101, m)
	}
	for _, p := range append(noPrimes, 2, 3, 97, 99, 100, 102) {
		check(p, table.c, p, zeroModuleBy(impl.Algebra{P: p, Dim: 3}, 1))
	}
	check("another prime", table.c, 103, sl2Module(101, 1))
	check("another prime", table.c, 101, sl2Module(103, 1))
	check("another prime", table.c, 97, sl2Module(97, 1))
	check("another table", cartanNamed(t, "A2"), 101, sl2Module(101, 1))
	for _, name := range []string{"F4", "B4", "C4"} {
		c := cartanNamed(t, name)
		for _, n := range []int{0, 28, 36, 52} {
			check(name, c, 101, slices.Repeat([]impl.Matrix{constant(101, 1, 1, 0)}, n))
		}
	}
	for _, c := range noCartans() {
		for _, n := range []int{0, 3, 8} {
			check(c, c, 101, slices.Repeat([]impl.Matrix{constant(101, 1, 1, 0)}, n))
		}
	}
}

// TestExamplesOfWeightsInModules has products that books divide.
func TestExamplesOfWeightsInModules(t *testing.T) {
	for _, e := range tensorExamples() {
		c := cartanNamed(t, e.name)
		m, ok := impl.SimpleModule(c, 101, e.v)
		n, fine := impl.SimpleModule(c, 101, e.w)
		if !ok || !fine || m[0].Rows*n[0].Rows > 30 {
			continue
		}
		tensor, ok := impl.TensorModules(namedTable(e.name).table(101), m, n)
		got, fine := impl.HighestIn(c, 101, tensor)
		mustTerms(t, e, got, ok && fine, e.want)
	}
	for _, e := range weightExamples() {
		c := cartanNamed(t, e.name)
		if m, ok := impl.SimpleModule(c, 10007, e.w); ok {
			got, fine := impl.WeightsIn(c, 10007, m)
			mustTerms(t, e, got, fine, e.want)
		}
	}
}
