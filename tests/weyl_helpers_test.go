package tests

import (
	"fmt"
	"math"
	"math/rand/v2"
	"slices"
	"sync"
	"testing"

	"loop.example/g03109/impl"
)

// keyOf tells all lists of numbers apart, however great the numbers are.
func keyOf(v []int) string { return fmt.Sprint(v) }

// turnedBy is the simple reflection i of a weight, as the document defines it.
func turnedBy(c impl.Cartan, i int, w []int) []int {
	v := make([]int, c.Rank)
	for k := range v {
		v[k] = w[k] - w[i]*entry(c, k, i)
	}
	return v
}

// actedBy lets the last letter act first.
func actedBy(c impl.Cartan, word []int, x []int, step func(c impl.Cartan, i int, x []int) []int) []int {
	y := slices.Clone(x)
	for k := len(word) - 1; k >= 0; k-- {
		y = step(c, word[k], y)
	}
	return y
}

// elementKey tells words apart that do not act on all weights alike.
func elementKey(c impl.Cartan, word []int) string {
	var images []int
	for k := range c.Rank {
		images = append(images, actedBy(c, word, unitVector(c.Rank, k), turnedBy)...)
	}
	return keyOf(images)
}

// weylGroup has the normal words of all elements, shorter ones first, those of one length in lexicographic order.
type weylGroup struct {
	c     impl.Cartan
	words [][]int
	index map[string]int
}

// groupBy tries only words that are a normal one and one letter more: a beginning of a normal word is one, too.
func groupBy(c impl.Cartan) *weylGroup {
	g := &weylGroup{c: c, index: map[string]int{}}
	level := [][]int{{}}
	for len(level) > 0 {
		var next [][]int
		for _, word := range level {
			key := elementKey(c, word)
			if _, known := g.index[key]; known {
				continue
			}
			g.index[key] = len(g.words)
			g.words = append(g.words, word)
			for i := range c.Rank {
				next = append(next, append(slices.Clone(word), i))
			}
		}
		level = next
	}
	return g
}

func (g *weylGroup) normal(word []int) []int { return g.words[g.index[elementKey(g.c, word)]] }

func (g *weylGroup) longest() []int { return g.words[len(g.words)-1] }

func (g *weylGroup) ofLength(n int) [][]int {
	var list [][]int
	for _, word := range g.words {
		if len(word) == n {
			list = append(list, word)
		}
	}
	return list
}

// someWords has the words of all elements of small groups and of some of large ones, and words that are not normal.
func (g *weylGroup) someWords(r *rand.Rand) [][]int {
	list := [][]int{nil, {0, 0}, g.longest(), slices.Repeat([]int{g.c.Rank - 1}, 60), slices.Repeat([]int{0}, 59)}
	for i, word := range g.words {
		if len(g.words) <= 24 || i%(len(g.words)/8) == 0 {
			list = append(list, word)
		}
	}
	for _, n := range []int{1, 2, 5, 12, 30, 59, 60} {
		list = append(list, randomVector(r, g.c.Rank, n))
	}
	return list
}

type typeWithGroup struct {
	knownType
	group *weylGroup
}

// groups has each Cartan matrix, of the many of rank 4 a fifth, and those of all types.
var groups = sync.OnceValue(func() []typeWithGroup {
	var list []typeWithGroup
	seen := map[string]bool{}
	add := func(k knownType) {
		if !seen[keyOf(k.c.Data)] {
			seen[keyOf(k.c.Data)] = true
			list = append(list, typeWithGroup{k, groupBy(k.c)})
		}
	}
	for _, k := range knownTypes() {
		add(k)
	}
	for i, k := range reorderedTypes() {
		if k.c.Rank < 4 || i%5 == 0 {
			add(k)
		}
	}
	return list
})

func eachGroup(seed uint64, f func(r *rand.Rand, k knownType, g *weylGroup)) {
	r := newRandom(seed)
	for _, k := range groups() {
		f(r, k.knownType, k.group)
	}
}

// someWeights has weights on walls, dominant ones, and ones with the greatest numbers.
func someWeights(r *rand.Rand, rank int) [][]int {
	var list [][]int
	for _, n := range []int{0, 1, -1, 1000, -1000} {
		list = append(list, slices.Repeat([]int{n}, rank))
	}
	for i := range rank {
		for _, n := range []int{1, -1, 300, 1000, -1000} {
			list = append(list, stepped(make([]int, rank), n, unitVector(rank, i)))
		}
	}
	for range 4 {
		small := randomVector(r, 9, rank)
		list = append(list, randomLattice(r, rank), stepped(small, -4, slices.Repeat([]int{1}, rank)))
	}
	return list
}

// noWords has lists that are no words for this rank.
func noWords(rank int) [][]int {
	list := [][]int{make([]int, 61), make([]int, 62), make([]int, 1000), slices.Repeat([]int{rank - 1}, 61)}
	for _, bad := range []int{rank, rank + 1, -1, -2, math.MinInt, math.MaxInt, 1 << 32, -1 << 32} {
		list = append(list, []int{bad}, []int{0, bad}, []int{bad, 0}, []int{0, bad, bad, 0}, append(make([]int, 59), bad))
	}
	return list
}

func isWeight(w []int) bool {
	return !slices.ContainsFunc(w, func(n int) bool { return n < -1000 || n > 1000 })
}

func mustLists(t *testing.T, what string, got [][]int, want [][]int) {
	t.Helper()
	if !sameLists(got, want) {
		t.Errorf("%s: %v, not %v", what, got, want)
	}
}
