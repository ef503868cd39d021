package tests

import (
	"math/rand/v2"
	"slices"
	"testing"

	"loop.example/g03109/impl"
)

// respects says by the definition whether m, a map from a to b, takes each bracket to that of the images.
func respects(a impl.Algebra, b impl.Algebra, m impl.Matrix) bool {
	for i := range a.Dim {
		for j := range a.Dim {
			if !slices.Equal(combine(m, tableEntry(a, i, j)), bracketBy(b, row(m, i), row(m, j))) {
				return false
			}
		}
	}
	return true
}

// TestHomomorphismsOfSmall tries all maps.
func TestHomomorphismsOfSmall(t *testing.T) {
	found := 0
	for _, p := range []int{2, 3} {
		for _, a := range fewAlgebras(p) {
			for _, b := range fewAlgebras(p) {
				if a.Dim*b.Dim > 6 {
					continue
				}
				for _, data := range allVectors(p, a.Dim*b.Dim) {
					m := matrixOf(p, a.Dim, b.Dim, data...)
					got := impl.IsHomomorphism(a, b, m)
					if got != respects(a, b, m) {
						t.Error(a, b, m, got)
					}
					if got {
						found++
					}
				}
			}
		}
	}
	if found < 1000 {
		t.Error(found)
	}
}

func TestHomomorphismsOfSquares(t *testing.T) {
	r := newRandom(60)
	for _, p := range []int{2, 3, 5} {
		for _, a := range fewAlgebras(p)[3:] {
			for range 300 {
				b := fewAlgebras(p)[r.IntN(len(fewAlgebras(p)))]
				m := lowRank(r, p, a.Dim, b.Dim, 1+r.IntN(3))
				if got := impl.IsHomomorphism(a, b, m); got != respects(a, b, m) {
					t.Error(a, b, m, got)
				}
			}
		}
	}
}

func TestExamplesOfHomomorphisms(t *testing.T) {
	eachAlgebra(61, func(r *rand.Rand, a impl.Algebra) {
		zero := algebraOf(a.P, 0)
		if !impl.IsHomomorphism(a, a, impl.UnitMatrix(a.P, a.Dim)) || !impl.IsHomomorphism(a, a, constant(a.P, a.Dim, a.Dim, 0)) {
			t.Error(a)
		}
		if !impl.IsHomomorphism(a, zero, matrixOf(a.P, a.Dim, 0)) || !impl.IsHomomorphism(zero, a, matrixOf(a.P, 0, a.Dim)) {
			t.Error(a)
		}
	})
	// Matrices go to their negative transposed ones.
	turned := constant(7, 9, 9, 0)
	for i := range 9 {
		turned.Data[i*9+i%3*3+i/3] = 6
	}
	if !impl.IsHomomorphism(general(7, 3), general(7, 3), turned) || impl.IsHomomorphism(general(7, 3), general(7, 3), impl.ScaleMatrix(turned, -1)) {
		t.Error("transposed")
	}
	trace := matrixOf(7, 9, 1, 1, 0, 0, 0, 1, 0, 0, 0, 1)
	if !impl.IsHomomorphism(general(7, 3), algebraOf(7, 1, 0), trace) || impl.IsHomomorphism(general(7, 3), algebraOf(7, 1, 0), matrixOf(7, 9, 1, 1, 0, 0, 0, 1, 0, 0, 0, 0)) {
		t.Error("trace")
	}
}

func TestMapsThatAreNone(t *testing.T) {
	a, b := affine(5), heisenberg(5)
	good := constant(5, 2, 3, 0)
	if !impl.IsHomomorphism(a, b, good) {
		t.Error("0 is a homomorphism")
	}
	for _, m := range append(invalidMatrices(), constant(7, 2, 3, 0), constant(5, 3, 2, 0), constant(5, 2, 2, 0), constant(5, 3, 3, 0), constant(5, 1, 3, 0), constant(5, 2, 4, 0), constant(5, 6, 1, 0), matrixOf(5, 0, 3), matrixOf(5, 2, 0), matrixOf(5, 0, 0)) {
		if impl.IsHomomorphism(a, b, m) {
			t.Error(m)
		}
	}
	if impl.IsHomomorphism(affine(7), b, good) || impl.IsHomomorphism(a, heisenberg(7), good) || impl.IsHomomorphism(algebraOf(5, 0), algebraOf(7, 0), matrixOf(5, 0, 0)) {
		t.Error("P differs")
	}
	for _, bad := range algebrasWithFlaws() {
		for _, p := range []int{bad.P, 5} {
			m := matrixOf(p, 0, 0)
			if n := bad.Dim; n > 0 && n <= 28 {
				m = constant(p, n, n, 0)
			}
			if impl.IsHomomorphism(bad, bad, m) || impl.IsHomomorphism(bad, algebraOf(5, 0), m) || impl.IsHomomorphism(algebraOf(5, 0), bad, m) {
				t.Error(bad)
			}
		}
	}
}

func TestEqualAlgebras(t *testing.T) {
	list := append(fewAlgebras(5), fewAlgebras(3)...)
	list = append(list, withTerms(5, 28), withTerms(5, 3, term{0, 1, 2, 2}), withTerms(5, 28, term{26, 27, 0, 1}))
	for i, a := range list {
		for j, b := range list {
			if got := impl.EqualAlgebras(a, b); got != (i == j) {
				t.Error(a, b, got)
			}
		}
	}
	for _, bad := range algebrasWithFlaws() {
		if impl.EqualAlgebras(bad, bad) || impl.EqualAlgebras(bad, list[0]) || impl.EqualAlgebras(list[0], bad) {
			t.Error(bad)
		}
	}
	if !impl.EqualAlgebras(impl.Algebra{P: 5}, impl.Algebra{P: 5, Table: []int{}}) {
		t.Error("nil and empty tables are the same")
	}
}
