package tests

import (
	"math"
	"math/big"
	"slices"
	"strconv"
	"strings"
	"testing"

	"loop.example/g03109/impl"
)

func TestFormatInt(t *testing.T) {
	for n, want := range map[int]string{
		0: "0", 7: "7", -7: "-7", 10: "10", -100: "-100", 10007: "10007",
		math.MaxInt: "9223372036854775807", math.MinInt: "-9223372036854775808",
	} {
		if got := impl.FormatInt(n); got != want {
			t.Errorf("%d: %q", n, got)
		}
	}
}

func TestFormatInts(t *testing.T) {
	for _, c := range []struct {
		list []int
		want string
	}{
		{nil, ""}, {[]int{}, ""}, {[]int{0}, "0"}, {[]int{1, -2, 30}, "1 -2 30"},
		{[]int{math.MinInt, 0, math.MaxInt}, "-9223372036854775808 0 9223372036854775807"},
	} {
		if got := impl.FormatInts(c.list); got != c.want {
			t.Errorf("%v: %q", c.list, got)
		}
	}
}

func TestParseInts(t *testing.T) {
	for s, want := range map[string][]int{
		"": {}, "0": {0}, "3 -4": {3, -4}, "0 0 0": {0, 0, 0}, "10 -10 100": {10, -10, 100},
		"999999999": {999999999}, "-999999999": {-999999999}, "-999999999 999999999 1": {-999999999, 999999999, 1},
	} {
		got, ok := impl.ParseInts(s)
		if !ok || !slices.Equal(got, want) || impl.FormatInts(got) != s {
			t.Errorf("%q: %v %v", s, got, ok)
		}
	}
}

func TestParseIntsFails(t *testing.T) {
	for _, s := range []string{
		" ", "  ", " 1", "1 ", "1  2", "1\n", "\n1", "1\t2", "1,2", "1;", "a", "1a", "x 1", "1 x",
		"+1", "+0", "-0", "00", "01", "-01", "3 04", "04 3", "--1", "-", "- 1", "1-", "1.0", "1e3", "0x1", "0b1", "1_000",
		"1000000000", "-1000000000", "1 1000000000", "-1000000000 1", "9223372036854775807", "-9223372036854775808",
		"9223372036854775808", "18446744073709551617", "99999999999999999999999999", "1\x00", "\x00", "\xff", "１", "1\u00a02", "−1",
		strings.Repeat("1", 5000), strings.Repeat(" ", 5000),
	} {
		if got, ok := impl.ParseInts(s); ok || got != nil {
			t.Errorf("%q: %v %v", s, got, ok)
		}
	}
}

// TestParseIntsOfBytes compares all short texts of some bytes with what FormatInts can write.
func TestParseIntsOfBytes(t *testing.T) {
	written := map[string]bool{"": true}
	for a := -999; a <= 9999; a++ {
		written[strconv.Itoa(a)] = true
		for b := -9; b <= 99; b++ {
			written[strconv.Itoa(a)+" "+strconv.Itoa(b)] = true
		}
	}
	for a := range 10 {
		for b := range 10 {
			for _, c := range []int{0, 1, 9, -1} {
				written[strconv.Itoa(a)+" "+strconv.Itoa(b)+" "+strconv.Itoa(c)] = true
			}
		}
	}
	for _, v := range allVectors(6, 4) {
		b := make([]byte, len(v))
		for i, x := range v {
			b[i] = "019- +"[x]
		}
		for n := range 5 {
			s := string(b[:n])
			if got, ok := impl.ParseInts(s); ok != written[s] || ok && impl.FormatInts(got) != s || !ok && got != nil {
				t.Errorf("%q: %v %v", s, got, ok)
			}
		}
	}
}

func TestIsPrime(t *testing.T) {
	primes := primesBelow(10008)
	for n := -20; n < 10100; n++ {
		if _, found := slices.BinarySearch(primes, n); found != impl.IsPrime(n) {
			t.Errorf("%d: %v", n, impl.IsPrime(n))
		}
	}
	for _, n := range []int{math.MinInt, -1 << 31, 1<<31 - 1, 1 << 32, 1<<61 - 1, math.MaxInt} {
		if impl.IsPrime(n) {
			t.Errorf("%d", n)
		}
	}
	if impl.MaxPrime != 10007 || impl.MaxSize != 40 {
		t.Error(impl.MaxPrime, impl.MaxSize)
	}
}

func TestResidue(t *testing.T) {
	r := newRandom(1)
	for _, p := range somePrimes {
		numbers := slices.Clone(extremes)
		for n := -3 * 7; n <= 3*7; n++ {
			numbers = append(numbers, n, n*p, n*p+1, n*p-1, int(r.Uint64()))
		}
		for _, n := range numbers {
			want := int(new(big.Int).Mod(big.NewInt(int64(n)), big.NewInt(int64(p))).Int64())
			if got := impl.Residue(n, p); got != want {
				t.Errorf("%d mod %d: %d", n, p, got)
			}
		}
	}
}

func TestInverseOf(t *testing.T) {
	for _, p := range somePrimes {
		numbers := slices.Clone(extremes)
		for n := -2 * p; n <= 2*p; n++ {
			numbers = append(numbers, n)
		}
		for _, n := range numbers {
			got, residue := impl.InverseOf(n, p), impl.Residue(n, p)
			good := got > 0 && got < p && got*residue%p == 1
			if residue == 0 {
				good = got == 0
			}
			if !good {
				t.Errorf("%d mod %d: %d", n, p, got)
			}
		}
	}
}

func TestResiduesWithoutPrime(t *testing.T) {
	for _, p := range noPrimes {
		for _, n := range append(slices.Clone(extremes), 2, 3, 5, 7, p) {
			if impl.Residue(n, p) != 0 || impl.InverseOf(n, p) != 0 {
				t.Errorf("%d mod %d: %d %d", n, p, impl.Residue(n, p), impl.InverseOf(n, p))
			}
		}
	}
}
