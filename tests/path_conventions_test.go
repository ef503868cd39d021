package tests

import (
	"math"
	"slices"
	"testing"

	"loop.example/g03109/impl"
)

// pathInput has an argument of each kind for the functions of paths.
type pathInput struct {
	c    impl.Cartan
	i    int
	p, q []impl.Step
	v, w []int
}

func (in pathInput) slices() [][]int {
	list := [][]int{in.c.Data, in.v, in.w}
	for _, s := range slices.Concat(in.p, in.q) {
		list = append(list, s.Way)
	}
	return list
}

func (in pathInput) roomy() pathInput {
	in.c.Data, in.v, in.w = roomy(in.c.Data), roomy(in.v), roomy(in.w)
	in.p, in.q = roomyPath(in.p), roomyPath(in.q)
	return in
}

// memory also has the steps, with the room behind them.
func (in pathInput) memory() [][]int {
	copies := copyEach(in.slices(), func(v []int) []int { return slices.Clone(whole(v)) })
	for _, s := range slices.Concat(wholePath(in.p), wholePath(in.q)) {
		copies = append(copies, append([]int{s.Len}, s.Way...))
	}
	return copies
}

func (in pathInput) overwrite() {
	scribble(in.slices()...)
	results{in.p, in.q}.overwriteParts()
}

// pathCall is a function of paths, with its results where it fails: for a matrix that is no Cartan matrix, and for a list
// that is no path if it takes one or two.
type pathCall struct {
	name    string
	takes   int
	run     func(in pathInput) results
	failure results
}

func pathCalls() []pathCall {
	noPath, notPath := results{[]impl.Step(nil)}, results{[]impl.Step(nil), false}
	notTerms := results{[]impl.Term(nil), false}
	return []pathCall{
		{"PathOk", 1, func(in pathInput) results { return results{impl.PathOk(in.c, in.p)} }, results{false}},
		{"StraightPath", 0, func(in pathInput) results { return results{impl.StraightPath(in.c, in.v)} }, noPath},
		{"EndOf", 1, func(in pathInput) results { return pair(impl.EndOf(in.c, in.p)) }, results{[]int(nil), false}},
		{"JoinPaths", 2, func(in pathInput) results { return pair(impl.JoinPaths(in.c, in.p, in.q)) }, notPath},
		{"DualPath", 1, func(in pathInput) results { return results{impl.DualPath(in.c, in.p)} }, noPath},
		{"LowestOf", 1, func(in pathInput) results { return results{impl.LowestOf(in.c, in.i, in.p)} }, results{0}},
		{"LowerPath", 1, func(in pathInput) results { return pair(impl.LowerPath(in.c, in.i, in.p)) }, notPath},
		{"RaisePath", 1, func(in pathInput) results { return pair(impl.RaisePath(in.c, in.i, in.p)) }, notPath},
		{"ReflectPath", 1, func(in pathInput) results { return pair(impl.ReflectPath(in.c, in.i, in.p)) }, notPath},
		{"HighestPath", 1, func(in pathInput) results { return pair(impl.HighestPath(in.c, in.p)) }, notPath},
		{"IsDominantPath", 1, func(in pathInput) results { return results{impl.IsDominantPath(in.c, in.p)} }, results{false}},
		{"PathsOf", 0, func(in pathInput) results { return results{impl.PathsOf(in.c, in.w)} }, results{[][]impl.Step(nil)}},
		{"PathCharacter", 0, func(in pathInput) results { return pair(impl.PathCharacter(in.c, in.w)) }, notTerms},
		{"TensorByPaths", 0, func(in pathInput) results { return pair(impl.TensorByPaths(in.c, in.v, in.w)) }, notTerms},
	}
}

func TestPathFunctionsOfNoCartanMatrix(t *testing.T) {
	weights := [][]int{nil, {0}, {1}, {-1}, {1, 0}, {0, 0}, {1, 0, 0}, {0, 0, 0, 0}, {0, 0, 0, 0, 1}, {math.MinInt}}
	for _, c := range noCartans() {
		for i, w := range weights {
			for _, p := range [][]impl.Step{nil, {}, pathOf(goes(full, w...)), pathOf(goes(half, 1, 0), goes(half, 0, 1))} {
				in := pathInput{c: c, i: i % 3, p: p, q: pathOf(goes(full, w...)), v: weights[(i+1)%len(weights)], w: w}.roomy()
				for _, call := range pathCalls() {
					checkFailing(t, call.name, in, call.failure, func() results { return call.run(in) })
				}
			}
		}
	}
}

// noPaths has lists with one flaw each.
func noPaths(rank int) [][]impl.Step {
	zeros, one := make([]int, rank), unitVector(rank, 0)
	list := [][]impl.Step{
		pathOf(goes(full, one...), goes(full, one...)), pathOf(goes(half, zeros...), goes(half, one...), goes(full, one...)), pathOf(goes(half, one...), goes(half, one...)),
		pathOf(goes(0, one...)), pathOf(goes(-full, one...)), pathOf(goes(full, one...), goes(0, zeros...)), pathOf(goes(2*full, one...), goes(-full, zeros...)),
		pathOf(goes(full-1, one...)), pathOf(goes(full+1, one...)), pathOf(goes(4*full, one...)), pathOf(goes(2*full, one...), goes(2*full, zeros...)),
		pathOf(goes(math.MaxInt, one...)), pathOf(goes(math.MinInt, one...)), pathOf(goes(math.MaxInt, one...), goes(math.MaxInt, zeros...), goes(full+2, one...)),
		windingPath(rank, 61, full), windingPath(rank, 62, 3*full), windingPath(rank, 1000, full),
	}
	for _, w := range noLattice(rank) {
		list = append(list, pathOf(goes(full, w...)))
	}
	return list
}

func TestFunctionsOfNoPaths(t *testing.T) {
	for n, k := range pathTypes() {
		good := pathOf(goes(full, unitVector(k.c.Rank, 0)...))
		for _, bad := range noPaths(k.c.Rank) {
			if n > 4 && len(bad) > 100 {
				continue
			}
			for _, call := range pathCalls() {
				if call.takes == 0 {
					continue
				}
				in := pathInput{c: k.c, p: bad, q: good}.roomy()
				checkFailing(t, call.name, in, call.failure, func() results { return call.run(in) })
				if call.takes == 2 {
					in.p, in.q = in.q, in.p
					checkFailing(t, call.name, in, call.failure, func() results { return call.run(in) })
					in.p = nil
					checkFailing(t, call.name, in, call.failure, func() results { return call.run(in) })
					in.p = in.q
					checkFailing(t, call.name, in, call.failure, func() results { return call.run(in) })
				}
			}
		}
	}
}

// TestPathFunctionsOfAnything has all mixtures of ranks and lists, among them the least and the greatest integers.
func TestPathFunctionsOfAnything(t *testing.T) {
	lists := [][]int{nil, {0}, {1}, {math.MinInt, math.MaxInt}, {math.MaxInt, 0}, {1, 0}, {1, 0, 0, 0}, {0, 0, 0, 0, 0, 0}}
	times := []int{math.MinInt, -1, 0, 1, full, 2 * full, 1 << 62, math.MaxInt}
	rows := []int{math.MinInt, -1, 0, 1, 3, 4, math.MaxInt}
	for _, rank := range []int{math.MinInt, -1, 0, 1, 2, 4, 5, 1 << 32, math.MaxInt} {
		for _, data := range [][]int{nil, {2}, {2, -1, -2, 2}, {math.MinInt}, make([]int, 16), knownParts()[10].data, make([]int, 25)} {
			c := impl.Cartan{Rank: rank, Data: data}
			isCartan := impl.IsCartan(c)
			for i, v := range lists {
				for j, w := range lists {
					p := pathOf(goes(times[(i+j)%len(times)], v...), goes(times[j%len(times)], w...))
					in := pathInput{c: c, i: rows[(i+3*j)%len(rows)], p: p, q: p[:1], v: v, w: w}
					for _, call := range pathCalls() {
						got := call.run(in)
						if (!isCartan || call.takes == 1 && !validPath(rank, p)) && !got.equal(call.failure) {
							t.Errorf("%s of %v: %v", call.name, in, got)
						}
					}
				}
			}
		}
	}
}

// pathInputs has for some types arguments for which functions have results, and others for which some have none.
func pathInputs() []pathInput {
	r := newRandom(930)
	var list []pathInput
	for n, known := range someHighest() {
		if n%4 > 0 {
			continue
		}
		k, other := known[r.IntN(min(len(known), 9))], known[r.IntN(min(len(known), 5))]
		rank := k.c.Rank
		paths := pathsBy(k.c, k.w)
		p, q := paths[r.IntN(len(paths))], paths[r.IntN(len(paths))]
		for i := range rank {
			list = append(list, pathInput{c: k.c, i: i, p: p, q: q, v: k.w, w: other.w}, pathInput{c: k.c, i: i, p: q, q: pathOf(goes(full, k.w...)), v: p[0].Way, w: make([]int, rank)},
				pathInput{c: k.c, i: i, p: mergedBy(slices.Concat(p, q, p)), q: nil, v: other.w, w: slices.Repeat([]int{4}, rank)})
		}
		for _, p := range somePaths(r, rank) {
			list = append(list, pathInput{c: k.c, i: r.IntN(rank+2) - 1, p: p, q: paths[0], v: k.w, w: make([]int, rank)})
		}
	}
	return append(list, pathInput{c: list[0].c, p: pathOf(goes(full, -420)), v: []int{3}, w: []int{3}})
}

func TestPathArgumentsStayAndMemoryIsNew(t *testing.T) {
	inputs := pathInputs()
	for _, call := range pathCalls() {
		for _, in := range inputs {
			once := in.roomy()
			checkMemory(t, call.name, once, func() results { return call.run(once) })
			twice := in.roomy()
			twice.q, twice.w = twice.p, twice.v
			checkMemory(t, call.name, twice, func() results { return call.run(twice) })
		}
	}
}

// TestFailuresOfPathFunctions says that all functions that fail give zero values, and each of them fails for something.
func TestFailuresOfPathFunctions(t *testing.T) {
	o := noOutcomes()
	for _, call := range pathCalls() {
		for _, in := range pathInputs() {
			o.note(t, call.name, in, call.run(in), call.failure)
		}
	}
	o.mustHaveBoth(t, "EndOf", "JoinPaths", "LowerPath", "RaisePath", "ReflectPath", "HighestPath", "PathCharacter", "TensorByPaths")
}
