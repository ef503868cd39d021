package impl

import (
	"slices"
	"strconv"
	"strings"
)

const (
	MaxPrime = 10007
	MaxSize  = 40
)

const maxParsed = 999999999

// Matrix has Rows times Cols residues modulo P, row by row.
type Matrix struct {
	P    int
	Rows int
	Cols int
	Data []int
}

func FormatInt(n int) string { return strconv.Itoa(n) }

func FormatInts(l []int) string {
	words := make([]string, len(l))
	for i, n := range l {
		words[i] = FormatInt(n)
	}
	return strings.Join(words, " ")
}

func ParseInts(s string) ([]int, bool) {
	if s == "" {
		return nil, true
	}
	words := strings.Split(s, " ")
	list := make([]int, len(words))
	for i, word := range words {
		n, ok := parseInt(word)
		if !ok {
			return nil, false
		}
		list[i] = n
	}
	return list, true
}

func parseInt(word string) (int, bool) {
	n, err := strconv.Atoi(word)
	if err != nil || n < -maxParsed || n > maxParsed {
		return 0, false
	}
	// Atoi also reads +1, 01 and -0, which FormatInt never writes.
	if FormatInt(n) != word {
		return 0, false
	}
	return n, true
}

func IsPrime(n int) bool {
	if n < 2 || n > MaxPrime {
		return false
	}
	for d := 2; d*d <= n; d++ {
		if n%d == 0 {
			return false
		}
	}
	return true
}

func Residue(n int, p int) int {
	if !IsPrime(p) {
		return 0
	}
	return residue(n, p)
}

func InverseOf(n int, p int) int {
	if !IsPrime(p) {
		return 0
	}
	return inverse(residue(n, p), p)
}

// residue, like the other unexported functions of this file, takes its
// arguments as valid: loops need not test P again and again, and matrices on
// the way to a result may be larger than MaxSize.
func residue(n int, p int) int {
	r := n % p
	if r < 0 {
		return r + p
	}
	return r
}

// inverse relies on Fermat's theorem: r to the power p - 1 is 1 unless r is 0.
// For r = 0 and p = 2 the exponent is 0, so that 0 must be answered before.
func inverse(r int, p int) int {
	if r == 0 {
		return 0
	}
	power := 1
	for e := p - 2; e > 0; e /= 2 {
		if e%2 == 1 {
			power = power * r % p
		}
		r = r * r % p
	}
	return power
}

func isVector(v []int, n int, p int) bool {
	if len(v) != n {
		return false
	}
	for _, x := range v {
		if x < 0 || x >= p {
			return false
		}
	}
	return true
}

func sizeOk(p int, rows int, cols int) bool {
	return IsPrime(p) && rows >= 0 && rows <= MaxSize && cols >= 0 && cols <= MaxSize
}

func MatrixOk(m Matrix) bool {
	return sizeOk(m.P, m.Rows, m.Cols) && isVector(m.Data, m.Rows*m.Cols, m.P)
}

func squareOk(m Matrix) bool { return MatrixOk(m) && m.Rows == m.Cols }

func ZeroMatrix(p int, rows int, cols int) Matrix {
	if !sizeOk(p, rows, cols) {
		return Matrix{}
	}
	return zeros(p, rows, cols)
}

func zeros(p int, rows int, cols int) Matrix {
	return Matrix{P: p, Rows: rows, Cols: cols, Data: make([]int, rows*cols)}
}

func UnitMatrix(p int, n int) Matrix {
	if !sizeOk(p, n, n) {
		return Matrix{}
	}
	return unit(p, n)
}

func unit(p int, n int) Matrix {
	m := zeros(p, n, n)
	for i := range n {
		m.Data[i*n+i] = 1
	}
	return m
}

func AddMatrices(a Matrix, b Matrix) (Matrix, bool) {
	if !MatrixOk(a) || !MatrixOk(b) || a.P != b.P || a.Rows != b.Rows || a.Cols != b.Cols {
		return Matrix{}, false
	}
	return addMultiple(a, 1, b), true
}

// addMultiple returns a plus k times b for a residue k.
func addMultiple(a Matrix, k int, b Matrix) Matrix {
	m := zeros(a.P, a.Rows, a.Cols)
	for i, x := range a.Data {
		m.Data[i] = (x + k*b.Data[i]) % a.P
	}
	return m
}

func ScaleMatrix(a Matrix, k int) Matrix {
	if !MatrixOk(a) {
		return Matrix{}
	}
	return addMultiple(zeros(a.P, a.Rows, a.Cols), residue(k, a.P), a)
}

func MulMatrices(a Matrix, b Matrix) (Matrix, bool) {
	if !MatrixOk(a) || !MatrixOk(b) || a.P != b.P || a.Cols != b.Rows {
		return Matrix{}, false
	}
	return product(a, b), true
}

// product takes residues once for each element, which would be most of the work
// otherwise: sums of products stay far below the greatest integer.
func product(a Matrix, b Matrix) Matrix {
	m := zeros(a.P, a.Rows, b.Cols)
	for i := range a.Rows {
		row := rowOf(m, i)
		for k, x := range rowOf(a, i) {
			if x == 0 {
				continue
			}
			for j, y := range rowOf(b, k) {
				row[j] += x * y
			}
		}
		for j := range row {
			row[j] %= a.P
		}
	}
	return m
}

// rowOf shares the memory of m.
func rowOf(m Matrix, i int) []int {
	return m.Data[i*m.Cols : (i+1)*m.Cols]
}

// addToRow adds k times other to row, in place.
func addToRow(row []int, k int, other []int, p int) {
	if k == 0 {
		return
	}
	for j, x := range other {
		row[j] = (row[j] + k*x) % p
	}
}

func TransposeMatrix(a Matrix) Matrix {
	if !MatrixOk(a) {
		return Matrix{}
	}
	return transpose(a)
}

func transpose(a Matrix) Matrix {
	m := zeros(a.P, a.Cols, a.Rows)
	for i := range a.Rows {
		for j, x := range rowOf(a, i) {
			m.Data[j*m.Cols+i] = x
		}
	}
	return m
}

// columnsBy returns the matrix whose columns are the images of the vectors
// with a single 1 under image, which must be linear.
func columnsBy(p int, rows int, cols int, image func(v []int) []int) Matrix {
	m := zeros(p, cols, rows)
	units := unit(p, cols)
	for i := range cols {
		copy(rowOf(m, i), image(rowOf(units, i)))
	}
	return transpose(m)
}

func CommutatorOf(a Matrix, b Matrix) (Matrix, bool) {
	if !squareOk(a) || !squareOk(b) || a.P != b.P || a.Rows != b.Rows {
		return Matrix{}, false
	}
	return commutator(a, b), true
}

func commutator(a Matrix, b Matrix) Matrix {
	return addMultiple(product(a, b), a.P-1, product(b, a))
}

func TraceOf(a Matrix) (int, bool) {
	if !squareOk(a) {
		return 0, false
	}
	sum := 0
	for i := range a.Rows {
		sum += a.Data[i*a.Cols+i]
	}
	return sum % a.P, true
}

func ReduceMatrix(a Matrix) (Matrix, []int) {
	if !MatrixOk(a) {
		return Matrix{}, nil
	}
	m := copyMatrix(a)
	pivots, _ := reduceRows(m, m.Cols)
	return m, pivots
}

func copyMatrix(a Matrix) Matrix {
	m := zeros(a.P, a.Rows, a.Cols)
	copy(m.Data, a.Data)
	return m
}

// reduceRows brings m to reduced row echelon form in place, with pivots in the
// first width columns only: what stands behind these is carried along. It
// returns the columns of the pivots, and the product of the pivots before they
// became 1 with the sign of the exchanges, which is the determinant of a
// square m where every column has a pivot.
func reduceRows(m Matrix, width int) ([]int, int) {
	pivots := make([]int, 0, min(m.Rows, width))
	factor := 1
	for c := range width {
		top := len(pivots)
		r := nonzeroRow(m, top, c)
		if r < 0 {
			continue
		}
		if r > top {
			exchangeRows(m, r, top)
			factor = m.P - factor
		}
		factor = factor * m.Data[top*m.Cols+c] % m.P
		clearColumn(m, top, c)
		pivots = append(pivots, c)
	}
	return pivots, factor
}

// nonzeroRow returns the first row from top on that does not have 0 in column
// c, or -1.
func nonzeroRow(m Matrix, top int, c int) int {
	for r := top; r < m.Rows; r++ {
		if m.Data[r*m.Cols+c] != 0 {
			return r
		}
	}
	return -1
}

func exchangeRows(m Matrix, r int, s int) {
	upper, lower := rowOf(m, r), rowOf(m, s)
	for j := range m.Cols {
		upper[j], lower[j] = lower[j], upper[j]
	}
}

// clearColumn makes the number in row top and column c a 1, and all others of
// this column 0.
func clearColumn(m Matrix, top int, c int) {
	row := rowOf(m, top)
	k := inverse(row[c], m.P)
	for j := range row {
		row[j] = row[j] * k % m.P
	}
	for r := range m.Rows {
		if x := m.Data[r*m.Cols+c]; r != top && x != 0 {
			addToRow(rowOf(m, r), m.P-x, row, m.P)
		}
	}
}

func RankOf(a Matrix) int {
	if !MatrixOk(a) {
		return -1
	}
	return span(a).Rows
}

func DeterminantOf(a Matrix) (int, bool) {
	if !squareOk(a) {
		return 0, false
	}
	pivots, factor := reduceRows(copyMatrix(a), a.Cols)
	if len(pivots) < a.Rows {
		return 0, true
	}
	return factor, true
}

func KernelOf(a Matrix) Matrix {
	if !MatrixOk(a) {
		return Matrix{}
	}
	return kernel(a)
}

// kernel sets one unknown without a pivot to 1 and the others to 0 for each of
// its elements. These are independent, but only span brings them to reduced
// form: their first numbers belong to the unknowns with pivots.
func kernel(a Matrix) Matrix {
	m := copyMatrix(a)
	pivots, _ := reduceRows(m, m.Cols)
	k := zeros(a.P, a.Cols-len(pivots), a.Cols)
	for i, c := range columnsWithout(pivots, a.Cols) {
		row := rowOf(k, i)
		row[c] = 1
		for r, pivot := range pivots {
			row[pivot] = residue(-m.Data[r*m.Cols+c], m.P)
		}
	}
	return span(k)
}

// columnsWithout returns the numbers below n, in ascending order, that are not
// among the pivots.
func columnsWithout(pivots []int, n int) []int {
	free := make([]int, 0, n-len(pivots))
	for c := range n {
		if !slices.Contains(pivots, c) {
			free = append(free, c)
		}
	}
	return free
}

func SolveMatrix(a Matrix, v []int) ([]int, bool) {
	if !MatrixOk(a) || !isVector(v, a.Rows, a.P) {
		return nil, false
	}
	return solve(a, v)
}

func solve(a Matrix, v []int) ([]int, bool) {
	m := joinColumns(a, Matrix{P: a.P, Rows: a.Rows, Cols: 1, Data: v})
	pivots, _ := reduceRows(m, a.Cols)
	if nonzeroRow(m, len(pivots), a.Cols) >= 0 {
		return nil, false
	}
	x := make([]int, a.Cols)
	for r, pivot := range pivots {
		x[pivot] = m.Data[r*m.Cols+a.Cols]
	}
	return x, true
}

// joinColumns puts the columns of b behind those of a.
func joinColumns(a Matrix, b Matrix) Matrix {
	m := zeros(a.P, a.Rows, a.Cols+b.Cols)
	for i := range a.Rows {
		row := rowOf(m, i)
		copy(row, rowOf(a, i))
		copy(row[a.Cols:], rowOf(b, i))
	}
	return m
}

// joinRows puts the rows of b behind those of a.
func joinRows(a Matrix, b Matrix) Matrix {
	m := zeros(a.P, a.Rows+b.Rows, a.Cols)
	copy(m.Data, a.Data)
	copy(m.Data[len(a.Data):], b.Data)
	return m
}

func InverseMatrix(a Matrix) (Matrix, bool) {
	if !squareOk(a) {
		return Matrix{}, false
	}
	n := a.Rows
	wide := joinColumns(a, unit(a.P, n))
	pivots, _ := reduceRows(wide, n)
	if len(pivots) < n {
		return Matrix{}, false
	}
	m := zeros(a.P, n, n)
	for i := range n {
		copy(rowOf(m, i), rowOf(wide, i)[n:])
	}
	return m, true
}

// NilpotencyOf needs no power above Rows: the kernels of the powers grow with
// each one until they stay.
func NilpotencyOf(a Matrix) int {
	if !squareOk(a) {
		return -1
	}
	power := unit(a.P, a.Rows)
	for k := range a.Rows + 1 {
		if firstNonzero(power.Data) < 0 {
			return k
		}
		power = product(power, a)
	}
	return -1
}

// firstNonzero returns the place of the first number other than 0, or -1.
func firstNonzero(v []int) int {
	return slices.IndexFunc(v, func(x int) bool { return x != 0 })
}

func SpanOf(a Matrix) Matrix {
	if !MatrixOk(a) {
		return Matrix{}
	}
	return span(a)
}

func span(a Matrix) Matrix {
	m := copyMatrix(a)
	pivots, _ := reduceRows(m, m.Cols)
	s := zeros(a.P, len(pivots), a.Cols)
	copy(s.Data, m.Data)
	return s
}

func SpaceOk(s Matrix) bool {
	_, ok := pivotsOf(s)
	return ok
}

// pivotsOf returns the columns of the pivots of a space, and whether s is one.
func pivotsOf(s Matrix) ([]int, bool) {
	if !MatrixOk(s) {
		return nil, false
	}
	pivots := make([]int, s.Rows)
	for r := range s.Rows {
		row := rowOf(s, r)
		c := firstNonzero(row)
		if c < 0 || row[c] != 1 || r > 0 && c <= pivots[r-1] || !onlyIn(s, r, c) {
			return nil, false
		}
		pivots[r] = c
	}
	return pivots, true
}

// onlyIn reports whether column c has only zeros outside of row r.
func onlyIn(s Matrix, r int, c int) bool {
	for i := range s.Rows {
		if i != r && s.Data[i*s.Cols+c] != 0 {
			return false
		}
	}
	return true
}

func sameSpaces(a Matrix, b Matrix) bool {
	return SpaceOk(a) && SpaceOk(b) && a.P == b.P && a.Cols == b.Cols
}

func SumSpaces(a Matrix, b Matrix) (Matrix, bool) {
	if !sameSpaces(a, b) {
		return Matrix{}, false
	}
	return span(joinRows(a, b)), true
}

// MeetSpaces relies on kernels: the kernel of a has the equations that all
// elements of a satisfy, and the common elements are those that satisfy the
// equations of both.
func MeetSpaces(a Matrix, b Matrix) (Matrix, bool) {
	if !sameSpaces(a, b) {
		return Matrix{}, false
	}
	return kernel(joinRows(kernel(a), kernel(b))), true
}

// CoordinatesIn needs no system to be solved: in the column of a pivot only
// that row has a number, so the number of v there is its coordinate.
func CoordinatesIn(s Matrix, v []int) ([]int, bool) {
	pivots, ok := pivotsOf(s)
	if !ok || !isVector(v, s.Cols, s.P) {
		return nil, false
	}
	x := make([]int, s.Rows)
	sum := make([]int, s.Cols)
	for r, pivot := range pivots {
		x[r] = v[pivot]
		addToRow(sum, x[r], rowOf(s, r), s.P)
	}
	if !slices.Equal(sum, v) {
		return nil, false
	}
	return x, true
}

func IsSubspace(a Matrix, b Matrix) bool {
	sum, ok := SumSpaces(a, b)
	return ok && sum.Rows == b.Rows
}
