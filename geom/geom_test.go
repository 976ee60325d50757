package geom

import (
	"math"
	"math/bits"
	"slices"
	"testing"

	"bracken/api"
)

func primes() []uint64 { return []uint64{api.P0, api.P1, api.P2} }

// strangers are no primes of the document: 0, neighbours of its primes, products, and other primes.
func strangers() []uint64 {
	l := []uint64{0, 1, 2, 3, 4, 5, 7, 9, 65537, 1<<31 - 1, 1 << 32, 1 << 63, math.MaxUint64, api.P1 * api.P2, 2 * api.P1, 469762049}
	for _, p := range primes() {
		l = append(l, p-1, p+1)
	}
	return l
}

// mul, add and pow count by p without the layers below, so that a fault of theirs would be seen too.
func mul(p, a, b uint64) uint64 {
	high, low := bits.Mul64(a, b)
	_, rest := bits.Div64(high%p, low, p)
	return rest
}

func add(p, a, b uint64) uint64 {
	low, carry := bits.Add64(a, b, 0)
	_, rest := bits.Div64(carry%p, low, p)
	return rest
}

func pow(p, a, n uint64) uint64 {
	product := uint64(1)
	for ; n > 0; n /= 2 {
		if n%2 == 1 {
			product = mul(p, product, a)
		}
		a = mul(p, a, a)
	}
	return product
}

// zeros are numbers that are 0 by p.
func zeros(p uint64) []uint64 {
	l := []uint64{0, p}
	if p < 1<<32 {
		l = append(l, 2*p, p*p, math.MaxUint64/p*p)
	}
	return l
}

// edges are numbers around those where something changes, below p and above.
func edges(p uint64) []uint64 {
	l := []uint64{1, 2, 3, 10, 1<<32 - 1, 1 << 32, 1<<32 + 1, 1 << 63, math.MaxUint64 - 1, math.MaxUint64,
		p/2 - 1, p / 2, p/2 + 1, p - 2, p - 1, p + 1, p + 2, 0x9e3779b97f4a7c15}
	return append(l, zeros(p)...)
}

// ordinary are many numbers of 64 bits, told by a fixed rule, so that each run has the same.
func ordinary(many int) []uint64 {
	l := make([]uint64, many)
	a := uint64(1)
	for i := range l {
		a = a*6364136223846793005 + 1442695040888963407
		l[i] = a
	}
	return l
}

// same are many numbers that are all a.
func same(many int, a uint64) []uint64 {
	l := make([]uint64, many)
	for i := range l {
		l[i] = a
	}
	return l
}

// root is a number by p whose powers come around at 65536, and not ahead of it.
func root(p uint64) uint64 {
	generator := map[uint64]uint64{api.P0: 7, api.P1: 3, api.P2: 31}[p]
	return pow(p, generator, (p-1)/65536)
}

// wantSum is the sum of powers as the document has it, term by term.
func wantSum(p, z uint64, n int) uint64 {
	total := uint64(0)
	for k := range n {
		total = add(p, total, pow(p, z, uint64(k)))
	}
	return total
}

// wantEval is the sum of numbers times powers as the document has it, term by term.
func wantEval(p uint64, l []uint64, r uint64) uint64 {
	total := uint64(0)
	for k, a := range l {
		total = add(p, total, mul(p, a, pow(p, r, uint64(k))))
	}
	return total
}

// wantRoots goes through the seeds without a map: a seed counts, if none ahead of it is the same by p.
func wantRoots(p uint64, l, seeds []uint64) int {
	roots := 0
	for i, s := range seeds {
		ahead := slices.ContainsFunc(seeds[:i], func(other uint64) bool { return other%p == s%p })
		if !ahead && wantEval(p, l, s) == 0 {
			roots++
		}
	}
	return roots
}

// spread are the numbers whose Eval is the product of r less each of the roots.
func spread(p uint64, roots ...uint64) []uint64 {
	l := []uint64{1}
	for _, root := range roots {
		next := make([]uint64, len(l)+1)
		for k, a := range l {
			next[k+1] = add(p, next[k+1], a)
			next[k] = add(p, next[k], mul(p, a, p-root%p))
		}
		l = next
	}
	return l
}

func checkSum(t *testing.T, p, z uint64, n int, want uint64) {
	t.Helper()
	if got, e := Sum(p, z, n); got != want || e != api.OK {
		t.Errorf("Sum(%d, %d, %d) is %d, %d, want %d", p, z, n, got, e, want)
	}
}

func checkEval(t *testing.T, p uint64, l []uint64, r, want uint64) {
	t.Helper()
	if got, e := Eval(p, l, r); got != want || e != api.OK {
		t.Errorf("Eval by %d of %d numbers at %d is %d, %d, want %d", p, len(l), r, got, e, want)
	}
}

func checkRoots(t *testing.T, p uint64, l, seeds []uint64, want int) {
	t.Helper()
	if got, e := Roots(p, l, seeds); got != want || e != api.OK {
		t.Errorf("Roots by %d of %d numbers and %d seeds is %d, %d, want %d", p, len(l), len(seeds), got, e, want)
	}
}

// P8.1
func TestSumWrittenOut(t *testing.T) {
	for _, x := range []struct {
		p, z uint64
		n    int
		want uint64
	}{
		{api.P1, 2, 4, 15},
		{api.P1, 10, 3, 111},
		{api.P1, 2, 30, 75497470},
		{api.P1, 998244352, 5, 1},
		{api.P1, 998244352, 6, 0},
		{api.P1, 998244355, 4, 15},
		{api.P2, 2, 31, 134217726},
		{api.P2, 3, 2, 4},
		{api.P0, 2, 63, 9223372036854775807},
		{api.P0, 2, 64, 4294967294},
		{api.P0, 4294967296, 3, 8589934592},
		{api.P0, math.MaxUint64, 2, 4294967295},
	} {
		checkSum(t, x.p, x.z, x.n, x.want)
	}
}

// P8.1: at each n up to some hundred, and around each power of 2 up to the greatest.
func TestSumTermByTerm(t *testing.T) {
	for _, p := range primes() {
		for _, z := range append(edges(p), ordinary(10)...) {
			total, power := uint64(0), uint64(1)
			for n := range 65537 {
				if n < 300 || bits.OnesCount(uint(n)) == 1 || bits.OnesCount(uint(n+1)) == 1 || bits.OnesCount(uint(n-1)) == 1 || n%9973 == 0 {
					checkSum(t, p, z, n, total)
				}
				total = add(p, total, power)
				power = mul(p, power, z)
			}
		}
		for _, n := range []int{0, 1, 2, 3, 4, 5, 6, 7, 100, 1023, 65536} {
			checkSum(t, p, 0x123456789abcdef, n, wantSum(p, 0x123456789abcdef, n))
		}
	}
}

// P8.1: no power at all, and the power 0 alone, which is 1 of whatever z.
func TestSumOfNoneAndOfOne(t *testing.T) {
	for _, p := range primes() {
		for _, z := range append(edges(p), ordinary(20)...) {
			checkSum(t, p, z, 0, 0)
			checkSum(t, p, z, 1, 1)
		}
	}
}

// P8.1: what is 0 by p has the power 0 too; the powers of 1 are as many as they are; those of p less 1 come and go; a root's come around to nothing.
func TestSumOfZeroOneAndRoots(t *testing.T) {
	for _, p := range primes() {
		for _, n := range []int{1, 2, 3, 4, 65535, 65536} {
			for _, z := range zeros(p) {
				checkSum(t, p, z, n, 1)
			}
			checkSum(t, p, 1, n, uint64(n))
			checkSum(t, p, p+1, n, uint64(n))
			checkSum(t, p, p-1, n, uint64(n%2))
		}
		checkSum(t, p, root(p), 65536, 0)
		checkSum(t, p, root(p), 65535, p-pow(p, root(p), 65535))
	}
}

// P8.1
func TestSumOfAWrongN(t *testing.T) {
	for _, p := range primes() {
		for _, n := range []int{-1, -2, -65536, math.MinInt + 1, math.MinInt, 65537, 65538, 1 << 17, 1 << 32, math.MaxInt - 1, math.MaxInt} {
			for _, z := range []uint64{0, 1, 2, p - 1, p, math.MaxUint64} {
				if got, e := Sum(p, z, n); got != 0 || e != api.ErrArg {
					t.Errorf("Sum(%d, %d, %d) is %d, %d", p, z, n, got, e)
				}
			}
		}
	}
}

// P8.1: that p is no prime is told ahead of a wrong n.
func TestSumOfNoPrime(t *testing.T) {
	for _, p := range strangers() {
		for _, n := range []int{0, 1, 4, 65536, 65537, -1, math.MinInt, math.MaxInt} {
			for _, z := range []uint64{0, 1, 2, p, math.MaxUint64} {
				if got, e := Sum(p, z, n); got != 0 || e != api.ErrPrime {
					t.Errorf("Sum(%d, %d, %d) is %d, %d", p, z, n, got, e)
				}
			}
		}
	}
}

// P8.2
func TestEvalWrittenOut(t *testing.T) {
	for _, x := range []struct {
		p    uint64
		l    []uint64
		r    uint64
		want uint64
	}{
		{api.P1, []uint64{1, 2, 3}, 10, 321},
		{api.P1, []uint64{6, 998244348, 1}, 2, 0},
		{api.P1, []uint64{6, 998244348, 1}, 3, 0},
		{api.P1, []uint64{6, 998244348, 1}, 4, 2},
		{api.P1, []uint64{998244353, 998244354, 998244355}, 998244363, 210},
		{api.P1, []uint64{1, 1, 1, 1}, 2, 15},
		{api.P2, []uint64{0, 0, 0, 1}, 1000, 1000000000},
		{api.P2, []uint64{2013265920, 1}, 1, 0},
		{api.P0, []uint64{1, 0, 1}, 4294967296, 4294967296},
		{api.P0, []uint64{math.MaxUint64, math.MaxUint64}, 1, 8589934588},
		{api.P0, []uint64{0, 1}, math.MaxUint64, 4294967294},
	} {
		checkEval(t, x.p, x.l, x.r, x.want)
	}
}

// P8.2
func TestEvalTermByTerm(t *testing.T) {
	for _, p := range primes() {
		points := append(edges(p), ordinary(10)...)
		for many := range 25 {
			l := ordinary(many)
			for _, r := range points {
				checkEval(t, p, l, r, wantEval(p, l, r))
			}
		}
		for _, r := range points {
			checkEval(t, p, points, r, wantEval(p, points, r))
			for _, a := range edges(p) {
				l := []uint64{a, 1, a, p - 1}
				checkEval(t, p, l, r, wantEval(p, l, r))
			}
		}
	}
}

// P8.2: a number alone at each place of a list goes by the power of that place.
func TestEvalOfOneNumberInAList(t *testing.T) {
	for _, p := range primes() {
		for place := range 40 {
			l := make([]uint64, 40)
			l[place] = math.MaxUint64
			for _, r := range edges(p) {
				checkEval(t, p, l, r, mul(p, math.MaxUint64, pow(p, r, uint64(place))))
			}
		}
	}
}

// P8.2: no number is 0, and of one number whatever r tells it, by p.
func TestEvalOfNoneAndOfOne(t *testing.T) {
	for _, p := range primes() {
		for _, r := range append(edges(p), ordinary(10)...) {
			checkEval(t, p, nil, r, 0)
			checkEval(t, p, []uint64{}, r, 0)
			for _, a := range edges(p) {
				checkEval(t, p, []uint64{a}, r, a%p)
			}
		}
	}
}

// P8.2
func TestEvalAtZeroAndOne(t *testing.T) {
	for _, p := range primes() {
		l := ordinary(100)
		for _, r := range zeros(p) {
			checkEval(t, p, l, r, l[0]%p)
		}
		total := uint64(0)
		for _, a := range l {
			total = add(p, total, a)
		}
		checkEval(t, p, l, 1, total)
		checkEval(t, p, l, p+1, total)
	}
}

// P8.2
func TestEvalOfTheLongestList(t *testing.T) {
	l := ordinary(65536)
	for _, p := range primes() {
		for _, r := range []uint64{0, 1, 2, p - 1, p, p + 2, math.MaxUint64, root(p)} {
			checkEval(t, p, l, r, wantEval(p, l, r))
		}
		last := make([]uint64, 65536)
		last[65535] = 5
		checkEval(t, p, last, 3, mul(p, 5, pow(p, 3, 65535)))
	}
}

// P8.2: one more is too many, of noughts too.
func TestEvalOfTooMany(t *testing.T) {
	for _, p := range primes() {
		for _, l := range [][]uint64{ordinary(65537), make([]uint64, 65537), ordinary(70000)} {
			for _, r := range []uint64{0, 1, p, math.MaxUint64} {
				if got, e := Eval(p, l, r); got != 0 || e != api.ErrArg {
					t.Errorf("Eval by %d of %d numbers at %d is %d, %d", p, len(l), r, got, e)
				}
			}
		}
	}
}

// P8.2: that p is no prime is told ahead of too many numbers.
func TestEvalOfNoPrime(t *testing.T) {
	for _, p := range strangers() {
		for _, l := range [][]uint64{nil, {1}, {0, 0}, {3, p, math.MaxUint64}, ordinary(65536), ordinary(65537)} {
			for _, r := range []uint64{0, 1, p, math.MaxUint64} {
				if got, e := Eval(p, l, r); got != 0 || e != api.ErrPrime {
					t.Errorf("Eval by %d of %d numbers at %d is %d, %d", p, len(l), r, got, e)
				}
			}
		}
	}
}

// P8.1, P8.2: Eval of as many 1s is Sum.
func TestEvalOfOnesIsSum(t *testing.T) {
	for _, p := range primes() {
		for _, z := range append(edges(p), root(p)) {
			for _, n := range []int{0, 1, 2, 3, 4, 5, 31, 32, 33, 1000, 65535, 65536} {
				want, e := Sum(p, z, n)
				if e != api.OK {
					t.Fatalf("Sum(%d, %d, %d): error %d", p, z, n, e)
				}
				checkEval(t, p, same(n, 1), z, want)
				if n < 1001 {
					checkEval(t, p, same(n, p+1), z, want)
				}
			}
		}
	}
}

// P8.2
func TestRootsWrittenOut(t *testing.T) {
	const p = api.P1
	for _, x := range []struct {
		l, seeds []uint64
		want     int
	}{
		{[]uint64{6, p - 5, 1}, []uint64{1, 2, 3, 2, p + 3, 4}, 2},
		{[]uint64{6, p - 5, 1}, []uint64{1, 4, 0, p, p + 1}, 0},
		{[]uint64{6, p - 5, 1}, []uint64{2}, 1},
		{[]uint64{p - 1, 0, 1}, []uint64{1, p - 1, 2*p - 1, 0}, 2},
		{[]uint64{0, 1}, []uint64{0, p, 2 * p, 1}, 1},
		{[]uint64{0, p}, []uint64{1, 2, 2}, 2},
		{[]uint64{1, 1, 1, 1}, []uint64{1, p - 1, 911660635, 86583718, 2}, 3},
		{[]uint64{5}, []uint64{0, 1, 5, p - 5}, 0},
	} {
		checkRoots(t, p, x.l, x.seeds, x.want)
	}
}

// P8.2
func TestRootsAgainstTheDefinition(t *testing.T) {
	for _, p := range primes() {
		seeds := append(edges(p), edges(p)...)
		seeds = append(seeds, ordinary(20)...)
		lists := [][]uint64{nil, {0}, {1}, {p}, {p, p + 1}, {0, 0, 7}, {1, 1}, {p - 1, 1}, {1, 0, p - 1}, {math.MaxUint64, p - math.MaxUint64%p}, same(4, 1), same(8, math.MaxUint64)}
		for many := range 6 {
			lists = append(lists, spread(p, edges(p)[:many]...), ordinary(many))
		}
		for _, l := range lists {
			for many := range len(seeds) + 1 {
				checkRoots(t, p, l, seeds[:many], wantRoots(p, l, seeds[:many]))
			}
		}
	}
}

// P8.2: known roots are all found, each once, and nothing beside them.
func TestRootsThatAreKnown(t *testing.T) {
	for _, p := range primes() {
		known := []uint64{0, 1, 2, 7, 1000, p / 2, p - 2, p - 1, 123456789}
		others := []uint64{3, 8, 999, p/2 + 1, p - 3, 987654321}
		for many := range len(known) + 1 {
			l := spread(p, known[:many]...)
			checkRoots(t, p, l, known, many)
			checkRoots(t, p, l, others, 0)
			checkRoots(t, p, l, slices.Concat(others, known, others, known), many)
			backward := slices.Concat(known, others)
			slices.Reverse(backward)
			checkRoots(t, p, l, backward, many)
			for i, r := range known {
				want := 0
				if i < many {
					want = 1
				}
				checkRoots(t, p, l, []uint64{r}, want)
			}
		}
		checkRoots(t, p, spread(p, 5, 5, 5, 9), []uint64{5, 9, 5, 4}, 2)
	}
}

// P8.2: of no number, and of numbers that are all 0 by p, each different seed is a root.
func TestRootsOfNoughts(t *testing.T) {
	for _, p := range primes() {
		for _, l := range [][]uint64{nil, {}, {0}, {p}, {0, p, 0}, zeros(p), make([]uint64, 500), same(500, p)} {
			checkRoots(t, p, l, nil, 0)
			checkRoots(t, p, l, []uint64{0}, 1)
			checkRoots(t, p, l, []uint64{1, 2, 3, 4, 5}, 5)
			checkRoots(t, p, l, []uint64{7, 7, 7, 7}, 1)
			checkRoots(t, p, l, []uint64{0, p, 1, p + 1, 2, p + 2}, 3)
			checkRoots(t, p, l, []uint64{math.MaxUint64, math.MaxUint64 % p, p - 1}, 2)
		}
		checkRoots(t, p, make([]uint64, 65536), []uint64{1, 2, p + 2}, 2)
	}
}

// P8.2
func TestRootsOfNoSeed(t *testing.T) {
	for _, p := range primes() {
		for _, l := range [][]uint64{nil, {0}, {1}, {0, 1}, ordinary(65536), make([]uint64, 65536)} {
			checkRoots(t, p, l, nil, 0)
			checkRoots(t, p, l, []uint64{}, 0)
		}
	}
}

// P8.2: seeds that are told twice, or are the same by p, count once, wherever they stand.
func TestRootsOfSeedsToldTwice(t *testing.T) {
	for _, p := range primes() {
		l := spread(p, 0, 4, 9)
		checkRoots(t, p, l, []uint64{4, 4}, 1)
		checkRoots(t, p, l, []uint64{4, p + 4}, 1)
		checkRoots(t, p, l, []uint64{p + 4, 4}, 1)
		checkRoots(t, p, l, []uint64{p + 4, 1, 9, 4, p + 9, 9, 1}, 2)
		checkRoots(t, p, l, []uint64{1, 1, p + 1, 4}, 1)
		checkRoots(t, p, l, append(zeros(p), zeros(p)...), 1)
		checkRoots(t, p, l, same(65536, p+9), 1)
		checkRoots(t, p, l, same(65536, 8), 0)
		top := spread(p, math.MaxUint64)
		checkRoots(t, p, top, []uint64{math.MaxUint64, math.MaxUint64 % p, math.MaxUint64}, 1)
	}
}

// P8.2: as many seeds as may be, all different, of which a known part are roots; and as many numbers.
func TestRootsOfTheLongestLists(t *testing.T) {
	for _, p := range primes() {
		seeds := make([]uint64, 65536)
		power := uint64(1)
		for i := range seeds {
			seeds[i] = power
			power = mul(p, power, root(p))
		}
		checkRoots(t, p, nil, seeds, 65536)
		checkRoots(t, p, []uint64{3}, seeds, 0)
		for _, order := range []int{1, 2, 64} {
			l := make([]uint64, order+1)
			l[0], l[order] = p-1, 1
			checkRoots(t, p, l, seeds, order)
		}
		checkRoots(t, p, same(32, 1), seeds, 31)
		checkRoots(t, p, same(65536, 1), []uint64{1, seeds[1], seeds[2], seeds[65535], p - 1, 0, 2, seeds[1]}, 4)
	}
}

// P8.2: one more number, or one more seed, is too many. (Short work stands ahead: without the error long lists of both would take minutes.)
func TestRootsOfTooMany(t *testing.T) {
	for _, p := range primes() {
		for _, x := range []struct{ l, seeds []uint64 }{
			{ordinary(65537), nil},
			{ordinary(65537), []uint64{1}},
			{make([]uint64, 65537), []uint64{0}},
			{nil, ordinary(65537)},
			{[]uint64{1}, make([]uint64, 65537)},
			{[]uint64{0}, same(70000, p)},
			{ordinary(65537), ordinary(65537)},
			{ordinary(65536), ordinary(65537)},
			{ordinary(65537), ordinary(65536)},
		} {
			if got, e := Roots(p, x.l, x.seeds); got != 0 || e != api.ErrArg {
				t.Fatalf("Roots by %d of %d numbers and %d seeds is %d, %d", p, len(x.l), len(x.seeds), got, e)
			}
		}
	}
}

// P8.2: that p is no prime is told ahead of too many numbers or seeds.
func TestRootsOfNoPrime(t *testing.T) {
	lists := [][]uint64{nil, {0}, {1, 2}, ordinary(65536), ordinary(65537)}
	for _, p := range strangers() {
		for _, l := range lists {
			for _, seeds := range lists {
				if got, e := Roots(p, l, seeds); got != 0 || e != api.ErrPrime {
					t.Fatalf("Roots by %d of %d numbers and %d seeds is %d, %d", p, len(l), len(seeds), got, e)
				}
			}
		}
	}
}

// P8.3: of numbers that are not all 0 by p there are fewer roots than numbers; a product of as many different ones has just one fewer.
func TestFewerRootsThanNumbers(t *testing.T) {
	for _, p := range primes() {
		seeds := append(edges(p), ordinary(20)...)
		for s := range uint64(30) {
			seeds = append(seeds, s)
		}
		small := []uint64{0, 1, p - 1, p, p + 1, 2}
		for code := range 6 * 6 * 6 * 6 {
			l := []uint64{small[code%6], small[code/6%6], small[code/36%6], small[code/216]}
			got, e := Roots(p, l, seeds)
			allZero := !slices.ContainsFunc(l, func(a uint64) bool { return a%p != 0 })
			if e != api.OK || got >= len(l) != allZero {
				t.Errorf("Roots(%d, %d) is %d, %d", p, l, got, e)
			}
		}
		for many := range 30 {
			checkRoots(t, p, spread(p, seeds[len(seeds)-many:]...), seeds, many)
		}
	}
}

// P8.3: z times Sum, and 1, is Sum of one more.
func TestSumOfOneMore(t *testing.T) {
	for _, p := range primes() {
		for _, z := range append(edges(p), ordinary(20)...) {
			for _, n := range []int{0, 1, 2, 3, 4, 5, 6, 7, 8, 63, 64, 65, 1000, 4095, 4096, 65534, 65535} {
				got, e := Sum(p, z, n)
				if e != api.OK {
					t.Errorf("Sum(%d, %d, %d): error %d", p, z, n, e)
				}
				checkSum(t, p, z, n+1, add(p, mul(p, z, got), 1))
			}
		}
	}
}

// P8.2, R2: with and without an error, and behind the ends of the lists too.
func TestListsAreLeftAlone(t *testing.T) {
	for _, p := range append(primes(), 7) {
		for _, many := range []int{0, 1, 5, 300, 65537} {
			store, other := ordinary(many+2), edges(p)
			l, seeds := store[1:many+1], other[1:len(other)-1]
			wasStore, wasOther := slices.Clone(store), slices.Clone(other)
			Eval(p, l, math.MaxUint64)
			Roots(p, l, seeds)
			Roots(p, seeds, l)
			if !slices.Equal(store, wasStore) || !slices.Equal(other, wasOther) {
				t.Errorf("by %d: lists of %d numbers were changed", p, many)
			}
		}
	}
}

// R5: nothing is kept from one call to the next, nor hangs on the order of a map.
func TestAskedAgain(t *testing.T) {
	for _, p := range primes() {
		l, seeds := spread(p, 3, 5, 7, 11), []uint64{11, 3, p + 3, 5, 6, 7, 7, 12}
		for range 50 {
			checkRoots(t, p, l, seeds, 4)
			checkRoots(t, p, l, seeds[1:], 3)
			checkSum(t, p, 2, 4, 15)
			checkEval(t, p, l, 3, 0)
		}
	}
}
