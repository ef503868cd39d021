package tests

import (
	"math/big"
	"math/rand/v2"
	"slices"
	"strconv"
	"sync"
	"testing"

	"loop.example/g03109/impl"
)

// full is the time PathLength.
const full = 27720

func goes(time int, way ...int) impl.Step { return impl.Step{Way: way, Len: time} }

func pathOf(steps ...impl.Step) []impl.Step { return steps }

func samePath(p []impl.Step, q []impl.Step) bool {
	return slices.EqualFunc(p, q, func(s, t impl.Step) bool { return s.Len == t.Len && slices.Equal(s.Way, t.Way) })
}

func mustPath(t *testing.T, what any, got []impl.Step, ok bool, want []impl.Step) {
	t.Helper()
	if !ok || !samePath(got, want) {
		t.Errorf("%v: %v %v, not %v", what, got, ok, want)
	}
}

func mustNoPath(t *testing.T, what any, got []impl.Step, ok bool) {
	t.Helper()
	if ok || len(got) > 0 {
		t.Errorf("%v: %v %v", what, got, ok)
	}
}

// mustPathIf takes false as what is wanted if the function has to fail.
func mustPathIf(t *testing.T, what any, got []impl.Step, ok bool, want []impl.Step, can bool) {
	t.Helper()
	if !can {
		mustNoPath(t, what, got, ok)
		return
	}
	mustPath(t, what, got, ok, want)
}

func pathKey(p []impl.Step) string {
	key := ""
	for _, s := range p {
		key += keyOf(s.Way) + strconv.Itoa(s.Len)
	}
	return key
}

// validPath says by the document's words whether p is a path, if the matrix is a Cartan matrix.
func validPath(rank int, p []impl.Step) bool {
	sum := big.NewInt(0)
	for i, s := range p {
		if len(s.Way) != rank || !isWeight(s.Way) || s.Len < 1 || i > 0 && slices.Equal(s.Way, p[i-1].Way) {
			return false
		}
		sum.Add(sum, big.NewInt(int64(s.Len)))
	}
	for n := range 4 {
		if sum.Cmp(big.NewInt(int64(n*27720))) == 0 {
			return len(p) <= 60
		}
	}
	return false
}

// mergedBy makes one of neighbours with the same Way.
func mergedBy(steps []impl.Step) []impl.Step {
	var p []impl.Step
	for _, s := range steps {
		if n := len(p); n > 0 && slices.Equal(p[n-1].Way, s.Way) {
			p[n-1].Len += s.Len
		} else {
			p = append(p, goes(s.Len, slices.Clone(s.Way)...))
		}
	}
	return p
}

// walkBy has the heights at all times that are integers. Between them no height is beyond both.
func walkBy(i int, p []impl.Step) []int {
	heights, h := make([]int, 1, 3*full+1), 0
	for _, s := range p {
		for range s.Len {
			h += s.Way[i]
			heights = append(heights, h)
		}
	}
	return heights
}

// turnedBetween applies the simple reflection i to each unit of time from u to v.
func turnedBetween(c impl.Cartan, i int, p []impl.Step, u int, v int) []impl.Step {
	var units []impl.Step
	time := 0
	for _, s := range p {
		turned := turnedBy(c, i, s.Way)
		for range s.Len {
			way := s.Way
			if u <= time && time < v {
				way = turned
			}
			if n := len(units); n > 0 && &units[n-1].Way[0] == &way[0] {
				units[n-1].Len++
			} else {
				units = append(units, impl.Step{Way: way, Len: 1})
			}
			time++
		}
	}
	return mergedBy(units)
}

// lowerBy looks at one unit of time after the other.
func lowerBy(c impl.Cartan, i int, p []impl.Step) ([]impl.Step, bool) {
	heights := walkBy(i, p)
	m := slices.Min(heights)
	if heights[len(heights)-1] < m+full {
		return nil, false
	}
	u := 0
	for time, h := range heights {
		if h == m {
			u = time
		}
	}
	v := u
	for heights[v] < m+full {
		v++
	}
	// Otherwise the time is between v - 1 and v.
	if heights[v] != m+full {
		return nil, false
	}
	q := turnedBetween(c, i, p, u, v)
	return q, validPath(c.Rank, q)
}

func raiseBy(c impl.Cartan, i int, p []impl.Step) ([]impl.Step, bool) {
	heights := walkBy(i, p)
	m := slices.Min(heights)
	if m > -full {
		return nil, false
	}
	v := slices.Index(heights, m)
	u := v
	for heights[u] < m+full {
		u--
	}
	if heights[u] != m+full {
		return nil, false
	}
	q := turnedBetween(c, i, p, u, v)
	return q, validPath(c.Rank, q)
}

func endBy(rank int, p []impl.Step) ([]int, bool) {
	end := make([]int, rank)
	for i := range end {
		for _, s := range p {
			end[i] += s.Len * s.Way[i]
		}
		if end[i]%full != 0 {
			return nil, false
		}
		end[i] /= full
	}
	return end, true
}

func reflectBy(c impl.Cartan, i int, p []impl.Step) ([]impl.Step, bool) {
	end, ok := endBy(c.Rank, p)
	if !ok {
		return nil, false
	}
	for n := end[i]; n != 0 && ok; {
		if n > 0 {
			p, ok = lowerBy(c, i, p)
			n--
		} else {
			p, ok = raiseBy(c, i, p)
			n++
		}
	}
	return p, ok
}

// highestBy also returns the number of steps up to the path that cannot be raised.
func highestBy(c impl.Cartan, p []impl.Step) ([]impl.Step, int) {
	steps := 0
	for i := 0; i < c.Rank; i++ {
		if q, ok := raiseBy(c, i, p); ok {
			p, i, steps = q, -1, steps+1
		}
	}
	return p, steps
}

// pathsBy has no limits but the last one.
func pathsBy(c impl.Cartan, w []int) [][]impl.Step {
	list := [][]impl.Step{pathOf(goes(full, w...))}
	seen := map[string]bool{pathKey(list[0]): true}
	for k := 0; k < len(list) && len(list) <= 400; k++ {
		for i := range c.Rank {
			if p, ok := impl.LowerPath(c, i, list[k]); ok && !seen[pathKey(p)] {
				seen[pathKey(p)] = true
				list = append(list, p)
			}
		}
	}
	return list
}

// cutTimes divides a time into at most n parts, which are multiples of grain.
func cutTimes(r *rand.Rand, time int, n int, grain int) []int {
	cuts := []int{0, time}
	for range n - 1 {
		cuts = append(cuts, grain*r.IntN(time/grain))
	}
	slices.Sort(cuts)
	cuts = slices.Compact(cuts)
	var times []int
	for k := range len(cuts) - 1 {
		times = append(times, cuts[k+1]-cuts[k])
	}
	return times
}

// randomPath has at most n steps, with numbers from -greatest to greatest.
func randomPath(r *rand.Rand, rank int, n int, greatest int, grain int) []impl.Step {
	total := full * r.IntN(4)
	if total == 0 {
		return nil
	}
	var steps []impl.Step
	for _, time := range cutTimes(r, total, n, grain) {
		way := stepped(randomVector(r, 2*greatest+1, rank), -greatest, slices.Repeat([]int{1}, rank))
		steps = append(steps, goes(time, way...))
	}
	return mergedBy(steps)
}

// somePaths has paths of all kinds.
func somePaths(r *rand.Rand, rank int) [][]impl.Step {
	list := [][]impl.Step{nil, randomPath(r, rank, 60, 1000, 1), randomPath(r, rank, 60, 2, 1), randomPath(r, rank, 60, 12, full/60)}
	for _, grain := range []int{full, full / 2, full / 3, full / 4, full / 6, full / 12, full / 60} {
		list = append(list, randomPath(r, rank, 2, 2, grain), randomPath(r, rank, 4, 1, grain), randomPath(r, rank, 7, 4, grain), randomPath(r, rank, 9, 2, grain))
	}
	return append(list, randomPath(r, rank, 3, 3, 1), randomPath(r, rank, 4, 12, 1))
}

// eachSomePath has random paths of the types with one part, and of some others.
func eachSomePath(seed uint64, f func(r *rand.Rand, k knownType, p []impl.Step)) {
	r := newRandom(seed)
	for _, k := range pathTypes() {
		for _, p := range somePaths(r, k.c.Rank) {
			f(r, k, p)
		}
	}
}

func pathTypes() []knownType {
	var list []knownType
	for i, k := range characterTypes() {
		if len(k.parts) == 1 || i%6 == 0 {
			list = append(list, k)
		}
	}
	return list
}

// windingPath has n steps with two Ways in turn: 1 and 0 in the first row.
func windingPath(rank int, n int, time int) []impl.Step {
	p := make([]impl.Step, n)
	for k := range p {
		p[k] = goes(1, stepped(make([]int, rank), (k+1)%2, unitVector(rank, 0))...)
	}
	p[n-1].Len = time - (n - 1)
	return p
}

// knownPaths has all paths of a highest weight, with the counts of their ends.
type knownPaths struct {
	knownCharacter
	paths [][]impl.Step
}

// highestPaths has those of all small highest weights of small types, and of some others.
var highestPaths = sync.OnceValue(func() []knownPaths {
	var list []knownPaths
	for i, k := range knownCharacters() {
		n := sizeBy(k.terms)
		if k.c.Rank < 3 && n < 60 || n < 12 || i%9 == 0 && n < 120 || i%61 == 0 {
			list = append(list, knownPaths{k, pathsBy(k.c, k.w)})
		}
	}
	return list
})

func copyPath(p []impl.Step) []impl.Step {
	return copyEach(p, func(s impl.Step) impl.Step { return goes(s.Len, append([]int(nil), s.Way...)...) })
}

// roomyPath has room behind the steps, and behind each Way.
func roomyPath(p []impl.Step) []impl.Step {
	list := copyEach(p, func(s impl.Step) impl.Step { return goes(s.Len, roomy(s.Way)...) })
	return append(list, goes(3, 1, 4), goes(-1, 5))[:len(list)]
}

func wholePath(p []impl.Step) []impl.Step { return p[:cap(p)] }
