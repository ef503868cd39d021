package tests

import (
	"fmt"
	"strconv"
	"strings"
	"testing"

	"loop.example/g03109/impl"
)

// textBy is the text of an algebra by the definition, however long.
func textBy(a impl.Algebra) string {
	var b strings.Builder
	fmt.Fprintf(&b, "%d %d\n", a.P, a.Dim)
	for i := range a.Dim {
		for j := i + 1; j < a.Dim; j++ {
			for k, n := range tableEntry(a, i, j) {
				if n != 0 {
					fmt.Fprintf(&b, "%d %d %d %d\n", i, j, k, n)
				}
			}
		}
	}
	return b.String()
}

func TestExamplesOfTexts(t *testing.T) {
	for _, c := range []struct {
		a    impl.Algebra
		want string
	}{
		{algebraOf(2, 0), "2 0\n"}, {algebraOf(10007, 1, 0), "10007 1\n"}, {withTerms(5, 28), "5 28\n"}, {affine(2), "2 2\n0 1 1 1\n"},
		{special(5), "5 3\n0 1 1 2\n0 2 2 3\n1 2 0 1\n"}, {withTerms(10007, 3, term{0, 1, 2, -1}), "10007 3\n0 1 2 10006\n"},
		{withTerms(5, 28, term{10, 26, 27, 4}, term{2, 3, 1, 2}), "5 28\n2 3 1 2\n10 26 27 4\n"},
		{withTerms(5, 3, term{0, 1, 2, 1}, term{0, 1, 1, 3}), "5 3\n0 1 1 3\n0 1 2 1\n"},
	} {
		if s := impl.FormatAlgebra(c.a); s != c.want {
			t.Errorf("%q, not %q", s, c.want)
		}
		a, ok := impl.ParseAlgebra(c.want)
		mustAlgebra(t, c.want, a, ok, c.a)
	}
	for _, a := range algebrasWithFlaws() {
		if s := impl.FormatAlgebra(a); s != "" {
			t.Error(a, s)
		}
	}
}

func TestTextsAndBack(t *testing.T) {
	r := newRandom(50)
	for _, p := range somePrimes {
		for _, a := range append(fewAlgebras(p), general(p, 3), general(p, 5)) {
			for _, b := range []impl.Algebra{a, scrambled(r, a)} {
				s := textBy(b)
				if len(s) > 60000 {
					continue
				}
				if got := impl.FormatAlgebra(b); got != s {
					t.Errorf("%q, not %q", got, s)
				}
				c, ok := impl.ParseAlgebra(s)
				mustAlgebra(t, s, c, ok, b)
			}
		}
	}
}

func TestTextsThatAreNone(t *testing.T) {
	for _, s := range []string{
		"", "\n", " ", "\n\n", "5\n", "5 3", "5 3\n\n", "\n5 3\n", "5 3 \n", " 5 3\n", "5  3\n", "5 3\r\n", "5 3 0\n", "5 3 1 1\n", "5,3\n", "5\n3\n",
		"4 3\n", "0 0\n", "1 0\n", "-5 3\n", "10009 1\n", "999999999 1\n", "9999999999 1\n", "5 -1\n", "5 29\n", "5 999999999\n", "05 3\n", "5 03\n", "+5 3\n", "5 -0\n", "5 x\n", "5 3.0\n",
		"5 3\n0 1 2 1", "5 3\n0 1 2 1\n\n", "5 3\n\n0 1 2 1\n", "5 3\n0 1 2 1 \n", "5 3\n 0 1 2 1\n", "5 3\n0 1 2  1\n", "5 3\n0 1 2 1\r\n", "5 3\n0 1 2 1\x00\n", "5 3\n0\t1 2 1\n", "5 3|0 1 2 1|",
		"5 3\n0 1 2\n", "5 3\n0 1 2 1 1\n", "5 3\n0 1 2 01\n", "5 3\n0 1 2 +1\n", "5 3\n-0 1 2 1\n", "5 3\n00 1 2 1\n",
		"5 3\n0 1 2 0\n", "5 3\n0 1 2 5\n", "5 3\n0 1 2 6\n", "5 3\n0 1 2 -1\n", "5 3\n0 1 2 1000000000\n",
		"5 3\n1 0 2 1\n", "5 3\n1 1 2 1\n", "5 3\n0 0 0 0\n", "5 3\n0 3 2 1\n", "5 3\n3 4 2 1\n", "5 3\n-1 1 2 1\n", "5 3\n0 1 3 1\n", "5 3\n0 1 -1 1\n", "5 3\n0 999999999 0 1\n", "5 3\n0 1 999999999 1\n", "5 0\n0 1 0 1\n", "5 1\n0 0 0 1\n", "5 1\n0 1 0 1\n",
		"5 3\n0 1 2 1\n0 1 2 1\n", "5 3\n0 1 2 1\n0 1 2 2\n", "5 3\n0 1 2 1\n0 1 1 1\n", "5 3\n0 2 1 1\n0 1 1 1\n", "5 4\n1 2 3 1\n0 1 3 1\n", "5 3\n0 1 2 1\n1 0 2 4\n",
		"5 3\n0 1 0 1\n1 2 1 1\n", "5 3\n0 1 2 1\n0 2 0 1\n", "2 3\n0 1 2 1\n0 2 2 1\n1 2 0 1\n", "3 4\n0 1 2 1\n2 3 0 1\n",
		"5 2\n0 1 1 1\n5 2\n", "5 2\n0 1 1 1\nx", "x\n", "５ 3\n", "5 3\n0 1 2 1\n" + strings.Repeat("\n", 60000), strings.Repeat("5 ", 40000) + "\n", strings.Repeat("\n", 59999), strings.Repeat("9", 60001),
	} {
		a, ok := impl.ParseAlgebra(s)
		mustFail(t, strconv.Quote(s[:min(len(s), 80)]), a, ok)
	}
}

// readBy reads words however they are spaced, and says whether the definition writes just s of what it has read.
func readBy(s string) (impl.Algebra, bool) {
	var numbers []int
	for _, word := range strings.Fields(s) {
		n, err := strconv.Atoi(word)
		if err != nil {
			return impl.Algebra{}, false
		}
		numbers = append(numbers, n)
	}
	if len(numbers)%4 != 2 || numbers[1] < 0 || numbers[1] > 28 {
		return impl.Algebra{}, false
	}
	p, dim := numbers[0], numbers[1]
	var terms []term
	for at := 2; at < len(numbers); at += 4 {
		e := term{numbers[at], numbers[at+1], numbers[at+2], numbers[at+3]}
		if min(e.i, e.j, e.k) < 0 || max(e.i, e.j, e.k) >= dim {
			return impl.Algebra{}, false
		}
		terms = append(terms, e)
	}
	a := withTerms(p, dim, terms...)
	return a, validAlgebra(a) && textBy(a) == s
}

// TestTextsWithOneMistake deletes, puts in and replaces each byte.
func TestTextsWithOneMistake(t *testing.T) {
	failed, read := 0, 0
	for _, a := range []impl.Algebra{special(5), heisenberg(101), affine(2), withTerms(7, 12, term{0, 11, 10, 3}, term{1, 10, 3, 6})} {
		s := textBy(a)
		for at := range len(s) + 1 {
			texts := []string{s[:at]}
			if at < len(s) {
				texts = append(texts, s[:at]+s[at+1:])
			}
			for _, c := range "0123456789 \n-+x\x00" {
				texts = append(texts, s[:at]+string(c)+s[at:])
				if at < len(s) {
					texts = append(texts, s[:at]+string(c)+s[at+1:])
				}
			}
			for _, changed := range texts {
				want, there := readBy(changed)
				b, ok := impl.ParseAlgebra(changed)
				switch {
				case there:
					read++
					mustAlgebra(t, changed, b, ok, want)
				default:
					failed++
					mustFail(t, strconv.Quote(changed), b, ok)
				}
			}
		}
	}
	if failed < 1000 || read < 100 {
		t.Error(failed, read)
	}
}

// ofLength returns an algebra of dimension 28 whose text has just n bytes, near to 60000: 22 elements in a random basis, and 6 others whose lines make up what is missing.
func ofLength(t *testing.T, n int) impl.Algebra {
	t.Helper()
	const p = 1499
	r := newRandom(51)
	base, _ := impl.SumAlgebras(general(p, 4), special(p))
	base, _ = impl.SumAlgebras(base, special(p))
	for range 1000 {
		dense, _ := impl.ChangeBasis(base, invertible(r, p, 22))
		sum, _ := impl.SumAlgebras(dense, withTerms(p, 6))
		missing := n - len(textBy(sum))
		if missing < 55 || missing > 156 {
			continue
		}
		sum, ok := impl.SumAlgebras(dense, withTerms(p, 6, linesOf(missing)...))
		if !ok || len(textBy(sum)) != n {
			t.Fatal(ok, len(textBy(sum)))
		}
		return sum
	}
	t.Fatal("no algebra of the length", n)
	return impl.Algebra{}
}

// linesOf returns terms whose lines have n bytes together: 11 to 13 each, by 1 to 3 digits of the last number. Brackets of the elements 0 to 3 are sums of 4 and 5, which have none.
func linesOf(n int) []term {
	count := (n + 12) / 13
	more := n - 11*count
	var list []term
	for i := range 4 {
		for j := i + 1; j < 4; j++ {
			for k := 4; k < 6 && len(list) < count; k++ {
				digits := min(more, 2)
				more -= digits
				list = append(list, term{i, j, k, []int{1, 10, 100}[digits]})
			}
		}
	}
	return list
}

func TestTextsAtTheLimit(t *testing.T) {
	for _, n := range []int{59999, 60000} {
		a := ofLength(t, n)
		s := impl.FormatAlgebra(a)
		if len(s) != n || s != textBy(a) {
			t.Error(n, len(s))
		}
		b, ok := impl.ParseAlgebra(s)
		mustAlgebra(t, "back", b, ok, a)
	}
	for _, n := range []int{60001, 60002} {
		a := ofLength(t, n)
		if !impl.AlgebraOk(a) || impl.FormatAlgebra(a) != "" {
			t.Error(n)
		}
		b, ok := impl.ParseAlgebra(textBy(a))
		mustFail(t, "too long", b, ok)
	}
	r := newRandom(52)
	a := scrambled(r, general(10007, 5))
	if !impl.AlgebraOk(a) || impl.FormatAlgebra(a) != "" {
		t.Error("much too long")
	}
	b, ok := impl.ParseAlgebra(textBy(a))
	mustFail(t, "much too long", b, ok)
}
