package fly

import (
	"math"
	"math/big"
	"slices"
	"testing"

	"bracken/api"
)

const greatest = math.MaxUint64

func primes() []uint64 { return []uint64{api.P0, api.P1, api.P2} }

// others are no primes that are known: some next to those that are, and some that are primes all the same.
func others() []uint64 {
	return []uint64{0, 1, 2, 3, 5, 7, 13, 17, 61, 257, 65537, api.P0 - 1, api.P0 + 1, api.P1 - 1, api.P1 + 1, api.P2 - 1, api.P2 + 1, api.P1 * 3, 1 << 63, greatest}
}

// radices are all there are; sizes are none, some of them next to a radix.
func radices() []int { return []int{2, 3, 4, 5} }

func sizes() []int {
	return []int{math.MinInt, math.MinInt + 1, math.MinInt + 2, math.MinInt + 4, -1 << 32, -5, -4, -3, -2, -1, 0, 1, 6, 7, 8, 10, 16, 4096, 8192, 8193, 65536, 65537, 1<<32 + 2, 1<<62 + 2, math.MaxInt - 1, math.MaxInt}
}

func ways() []bool { return []bool{false, true} }

// rooted tells whether there is a root of the radix r by p, as the primes are: P1 less 1 is 2 to the 23, times 7, times 17.
func rooted(p uint64, r int) bool {
	return p != api.P1 || r == 2 || r == 4
}

// kinds are numbers of p, some of them with few bits, some next to p.
func kinds(p uint64) []uint64 {
	return []uint64{0, 1, 2, 3, 7, 1 << 16, p / 2, p/2 + 1, p - 3, p - 2, p - 1}
}

// beyond are words that are no numbers of p.
func beyond(p uint64) []uint64 {
	return []uint64{p, p + 1, p + 7, greatest - 1, greatest}
}

// chance tells numbers by a fixed rule, so that each run has the same.
type chance uint64

func (c *chance) next(below int) int {
	*c = *c*6364136223846793005 + 1442695040888963407
	return int((uint64(*c) >> 33) % uint64(below))
}

func (c *chance) number(p uint64) uint64 {
	if c.next(4) == 0 {
		return kinds(p)[c.next(len(kinds(p)))]
	}
	return (uint64(c.next(1<<30))<<34 ^ uint64(c.next(1<<30))<<4 ^ uint64(c.next(1<<30))) % p
}

func (c *chance) numbers(p uint64, many int) []uint64 {
	l := make([]uint64, many)
	for i := range l {
		l[i] = c.number(p)
	}
	return l
}

// whole is a as a whole number.
func whole(a uint64) *big.Int { return new(big.Int).SetUint64(a) }

// wantRoot reckons the root by whole numbers: the power (p less 1) by r of the generator, undone if inv.
func wantRoot(p uint64, r int, inv bool) *big.Int {
	generator := map[uint64]int64{api.P0: 7, api.P1: 3, api.P2: 31}[p]
	n := whole((p - 1) / uint64(r))
	w := new(big.Int).Exp(big.NewInt(generator), n, whole(p))
	if inv {
		w.ModInverse(w, whole(p))
	}
	return w
}

// wantPower is the power n of the root of the radix r, which is not taken around.
func wantPower(p uint64, r int, inv bool, n int) *big.Int {
	return new(big.Int).Exp(wantRoot(p, r, inv), big.NewInt(int64(n)), whole(p))
}

func wantPoints(p uint64, r int, inv bool) []uint64 {
	l := make([]uint64, r)
	for n := range l {
		l[n] = wantPower(p, r, inv, n).Uint64()
	}
	return l
}

// wantDo goes by the document's words: products and sums of whole numbers, of which only at the end what is left over is taken.
func wantDo(p uint64, inv bool, x []uint64) []uint64 {
	y := make([]uint64, len(x))
	for u := range y {
		sum := new(big.Int)
		for i, a := range x {
			sum.Add(sum, new(big.Int).Mul(whole(a), wantPower(p, len(x), inv, i*u)))
		}
		y[u] = sum.Mod(sum, whole(p)).Uint64()
	}
	return y
}

func wantWeigh(p uint64, inv bool, x, w []uint64) uint64 {
	sum := new(big.Int)
	for i, a := range wantDo(p, inv, x) {
		sum.Add(sum, new(big.Int).Mul(whole(a), whole(w[i])))
	}
	return sum.Mod(sum, whole(p)).Uint64()
}

// plus and times count by p, by whole numbers.
func plus(p, a, b uint64) uint64 {
	sum := new(big.Int).Add(whole(a), whole(b))
	return sum.Mod(sum, whole(p)).Uint64()
}

func times(p, a, b uint64) uint64 {
	product := new(big.Int).Mul(whole(a), whole(b))
	return product.Mod(product, whole(p)).Uint64()
}

// sumOf is the sum of all of l by p.
func sumOf(p uint64, l []uint64) uint64 {
	var sum uint64
	for _, a := range l {
		sum = plus(p, sum, a)
	}
	return sum
}

// scaled is l, each of its words times a.
func scaled(p uint64, l []uint64, a uint64) []uint64 {
	m := make([]uint64, len(l))
	for i := range l {
		m[i] = times(p, l[i], a)
	}
	return m
}

// together are sums of words, one by one.
func together(p uint64, l, m []uint64) []uint64 {
	sums := make([]uint64, len(l))
	for i := range l {
		sums[i] = plus(p, l[i], m[i])
	}
	return sums
}

// with is l with another word in one place.
func with(l []uint64, at int, w uint64) []uint64 {
	other := slices.Clone(l)
	other[at] = w
	return other
}

// lone are as many words, all 0 but one.
func lone(many, at int, w uint64) []uint64 {
	return with(make([]uint64, many), at, w)
}

func checkPoints(t *testing.T, p uint64, r int, inv bool, want []uint64, wrong api.Errno) {
	t.Helper()
	if got, e := Points(p, r, inv); !slices.Equal(got, want) || e != wrong {
		t.Errorf("Points by %d of %d, %v is %v, %d, want %v, %d", p, r, inv, got, e, want, wrong)
	}
}

func checkDo(t *testing.T, p uint64, inv bool, x, want []uint64, wrong api.Errno) {
	t.Helper()
	if got, e := Do(p, inv, x); !slices.Equal(got, want) || e != wrong {
		t.Errorf("Do by %d, %v of %d, %v is %v, %d, want %v, %d", p, inv, len(x), x[:min(len(x), 8)], got, e, want, wrong)
	}
}

func checkWeigh(t *testing.T, p uint64, inv bool, x, w []uint64, want uint64, wrong api.Errno) {
	t.Helper()
	if got, e := Weigh(p, inv, x, w); got != want || e != wrong {
		t.Errorf("Weigh by %d, %v of %d, %v and %d, %v is %d, %d, want %d, %d", p, inv, len(x), x[:min(len(x), 8)], len(w), w[:min(len(w), 8)], got, e, want, wrong)
	}
}

// checkDoError wants an error of Do, and of Weigh by weights that may be, by some that are too few, and by some that are no numbers.
func checkDoError(t *testing.T, p uint64, inv bool, x []uint64, wrong api.Errno) {
	t.Helper()
	checkDo(t, p, inv, x, nil, wrong)
	for _, w := range [][]uint64{make([]uint64, len(x)), nil, {}, {0}, make([]uint64, len(x)+1), {greatest}, slices.Repeat([]uint64{greatest}, len(x)), slices.Repeat([]uint64{greatest}, len(x)+1)} {
		checkWeigh(t, p, inv, x, w, 0, wrong)
	}
}

// eachRadix goes through all primes, radices of which there is a root, and both ways.
func eachRadix(do func(p uint64, r int, inv bool)) {
	for _, p := range primes() {
		for _, r := range radices() {
			for _, inv := range ways() {
				if rooted(p, r) {
					do(p, r, inv)
				}
			}
		}
	}
}

// told are the words of Do, of words of which there is no error.
func told(t *testing.T, p uint64, inv bool, x []uint64) []uint64 {
	t.Helper()
	y, e := Do(p, inv, x)
	if e != api.OK || len(y) != len(x) {
		t.Fatalf("Do by %d, %v of %v is %v, %d", p, inv, x, y, e)
	}
	return y
}

func TestPointsWrittenOut(t *testing.T) {
	for _, p := range primes() {
		for _, inv := range ways() {
			checkPoints(t, p, 2, inv, []uint64{1, p - 1}, api.OK)
		}
	}
	checkPoints(t, api.P1, 4, false, []uint64{1, 911660635, 998244352, 86583718}, api.OK)
	checkPoints(t, api.P1, 4, true, []uint64{1, 86583718, 998244352, 911660635}, api.OK)
	checkPoints(t, api.P2, 3, false, []uint64{1, 1314723123, 698542797}, api.OK)
	checkPoints(t, api.P2, 3, true, []uint64{1, 698542797, 1314723123}, api.OK)
	checkPoints(t, api.P2, 4, false, []uint64{1, 1728404513, 2013265920, 284861408}, api.OK)
	checkPoints(t, api.P2, 5, false, []uint64{1, 645581151, 1956349769, 609564788, 815036133}, api.OK)
	checkPoints(t, api.P2, 5, true, []uint64{1, 815036133, 609564788, 1956349769, 645581151}, api.OK)
	checkPoints(t, api.P0, 3, false, []uint64{1, 18446744065119617025, 4294967295}, api.OK)
	checkPoints(t, api.P0, 4, false, []uint64{1, 281474976710656, 18446744069414584320, 18446462594437873665}, api.OK)
	checkPoints(t, api.P0, 4, true, []uint64{1, 18446462594437873665, 18446744069414584320, 281474976710656}, api.OK)
	checkPoints(t, api.P0, 5, false, []uint64{1, 1373043270956696022, 211587555138949697, 15820824984080659046, 1041288259238279555}, api.OK)
}

func TestPointsByReckoning(t *testing.T) {
	eachRadix(func(p uint64, r int, inv bool) {
		checkPoints(t, p, r, inv, wantPoints(p, r, inv), api.OK)
	})
}

// What is undone the other way round is 1, the power r is 1, no lesser one is, and all together are 0.
func TestPointsComeAround(t *testing.T) {
	eachRadix(func(p uint64, r int, inv bool) {
		there, e := Points(p, r, inv)
		back, f := Points(p, r, !inv)
		if e != api.OK || f != api.OK || len(there) != r || len(back) != r {
			t.Fatalf("Points by %d of %d, %v: %v, %v, %d, %d", p, r, inv, there, back, e, f)
		}
		if times(p, there[r-1], there[1]) != 1 || sumOf(p, there) != 0 || there[0] != 1 {
			t.Errorf("Points by %d of %d, %v: %v do not come around", p, r, inv, there)
		}
		for n := range r {
			if n > 0 && there[n] == 1 {
				t.Errorf("Points by %d of %d, %v: %v come around too early", p, r, inv, there)
			}
			if times(p, there[n], back[n]) != 1 || there[n] != back[(r-n)%r] {
				t.Errorf("Points by %d of %d, %v: %v do not undo %v", p, r, inv, back, there)
			}
		}
	})
}

func TestPointsOfNoRadix(t *testing.T) {
	for _, p := range primes() {
		for _, inv := range ways() {
			for _, r := range sizes() {
				checkPoints(t, p, r, inv, nil, api.ErrSize)
			}
			for r := -40; r < 300; r++ {
				if r < 2 || r > 5 {
					checkPoints(t, p, r, inv, nil, api.ErrSize)
				}
			}
		}
	}
}

func TestPointsWithoutARoot(t *testing.T) {
	for _, inv := range ways() {
		checkPoints(t, api.P1, 3, inv, nil, api.ErrOrder)
		checkPoints(t, api.P1, 5, inv, nil, api.ErrOrder)
	}
}

// The prime is told first, whatever else is wrong.
func TestPointsByNoPrime(t *testing.T) {
	for _, p := range others() {
		for _, inv := range ways() {
			for _, r := range slices.Concat(radices(), sizes()) {
				checkPoints(t, p, r, inv, nil, api.ErrPrime)
			}
		}
	}
}

func TestDoWrittenOut(t *testing.T) {
	for _, p := range primes() {
		for _, inv := range ways() {
			checkDo(t, p, inv, []uint64{3, 5}, []uint64{8, p - 2}, api.OK)
			checkDo(t, p, inv, []uint64{5, 3}, []uint64{8, 2}, api.OK)
			checkDo(t, p, inv, []uint64{0, 1}, []uint64{1, p - 1}, api.OK)
			checkDo(t, p, inv, []uint64{p - 1, p - 1}, []uint64{p - 2, 0}, api.OK)
			checkDo(t, p, inv, []uint64{1, 1, 1, 1}, []uint64{4, 0, 0, 0}, api.OK)
		}
	}
	checkDo(t, api.P0, false, []uint64{1, 2, 3}, []uint64{6, 4294967294, 18446744065119617024}, api.OK)
	checkDo(t, api.P0, true, []uint64{1, 2, 3}, []uint64{6, 18446744065119617024, 4294967294}, api.OK)
	checkDo(t, api.P2, false, []uint64{1, 2, 3}, []uint64{6, 698542796, 1314723122}, api.OK)
	checkDo(t, api.P1, false, []uint64{1, 2, 3, 4}, []uint64{10, 173167434, 998244351, 825076915}, api.OK)
	checkDo(t, api.P1, true, []uint64{1, 2, 3, 4}, []uint64{10, 825076915, 998244351, 173167434}, api.OK)
	checkDo(t, api.P0, false, []uint64{1, 2, 3, 4}, []uint64{10, 18446181119461163007, 18446744069414584319, 562949953421310}, api.OK)
	checkDo(t, api.P2, false, []uint64{1, 2, 3, 4, 5}, []uint64{15, 1594055901, 1921626877, 91639039, 419210015}, api.OK)
	checkDo(t, api.P2, true, []uint64{1, 2, 3, 4, 5}, []uint64{15, 419210015, 91639039, 1921626877, 1594055901}, api.OK)
	checkDo(t, api.P0, false, []uint64{1, 2, 3, 4, 5}, []uint64{15, 16530358231600522132, 14356361614564480094, 4090382454850104222, 1916385837814062184}, api.OK)
}

// Of one word that is not 0 each power is to be seen by itself.
func TestDoOfLoneWords(t *testing.T) {
	eachRadix(func(p uint64, r int, inv bool) {
		checkDo(t, p, inv, make([]uint64, r), make([]uint64, r), api.OK)
		for at := range r {
			points := make([]uint64, r)
			for u := range r {
				points[u] = wantPower(p, r, inv, at*u).Uint64()
			}
			checkDo(t, p, inv, lone(r, at, 1), points, api.OK)
			for _, a := range kinds(p) {
				checkDo(t, p, inv, lone(r, at, a), scaled(p, points, a), api.OK)
			}
		}
	})
}

// Each word is each of the kinds, together with each of some in all other places.
func TestDoByReckoning(t *testing.T) {
	c := chance(1)
	eachRadix(func(p uint64, r int, inv bool) {
		for at := range r {
			for _, a := range kinds(p) {
				for _, b := range []uint64{1, p / 2, p - 1} {
					x := with(slices.Repeat([]uint64{b}, r), at, a)
					checkDo(t, p, inv, x, wantDo(p, inv, x), api.OK)
				}
			}
		}
		for range 300 {
			x := c.numbers(p, r)
			checkDo(t, p, inv, x, wantDo(p, inv, x), api.OK)
		}
	})
}

// All words that are made of four numbers.
func TestDoOfAllFewNumbers(t *testing.T) {
	eachRadix(func(p uint64, r int, inv bool) {
		few := []uint64{0, 1, p / 2, p - 1}
		all := 1 << (2 * r)
		for n := range all {
			x := make([]uint64, r)
			for i := range x {
				x[i] = few[n>>(2*i)&3]
			}
			checkDo(t, p, inv, x, wantDo(p, inv, x), api.OK)
		}
	})
}

func TestDoOfNoRadix(t *testing.T) {
	for _, p := range primes() {
		for _, inv := range ways() {
			checkDoError(t, p, inv, nil, api.ErrSize)
			checkDoError(t, p, inv, []uint64{}, api.ErrSize)
			for _, many := range []int{1, 6, 7, 8, 10, 16, 4096, 65537} {
				checkDoError(t, p, inv, make([]uint64, many), api.ErrSize)
			}
		}
	}
}

func TestDoWithoutARoot(t *testing.T) {
	for _, inv := range ways() {
		for _, r := range []int{3, 5} {
			checkDoError(t, api.P1, inv, make([]uint64, r), api.ErrOrder)
			checkDoError(t, api.P1, inv, slices.Repeat([]uint64{7}, r), api.ErrOrder)
		}
	}
}

func TestDoOfNoNumbers(t *testing.T) {
	eachRadix(func(p uint64, r int, inv bool) {
		for _, bad := range beyond(p) {
			for at := range r {
				checkDoError(t, p, inv, lone(r, at, bad), api.ErrWord)
				checkDoError(t, p, inv, with(slices.Repeat([]uint64{p - 1}, r), at, bad), api.ErrWord)
			}
			checkDoError(t, p, inv, slices.Repeat([]uint64{bad}, r), api.ErrWord)
		}
	})
}

// A number of one prime is none of another.
func TestDoOfNumbersOfAnotherPrime(t *testing.T) {
	x := []uint64{api.P1, 0, 1, 2}
	for _, inv := range ways() {
		checkDoError(t, api.P1, inv, x, api.ErrWord)
		checkDo(t, api.P2, inv, x, wantDo(api.P2, inv, x), api.OK)
		checkDo(t, api.P0, inv, x, wantDo(api.P0, inv, x), api.OK)
		checkDoError(t, api.P2, inv, []uint64{1, api.P2}, api.ErrWord)
		checkDo(t, api.P0, inv, []uint64{1, api.P2}, []uint64{api.P2 + 1, api.P0 - api.P2 + 1}, api.OK)
	}
}

// The prime is told first, then how many words there are, then the root, then the words.
func TestDoThatIsWrongTwice(t *testing.T) {
	for _, inv := range ways() {
		for _, p := range others() {
			for many := range 8 {
				checkDoError(t, p, inv, make([]uint64, many), api.ErrPrime)
				checkDoError(t, p, inv, slices.Repeat([]uint64{greatest}, many), api.ErrPrime)
			}
		}
		for _, p := range primes() {
			checkDoError(t, p, inv, []uint64{p}, api.ErrSize)
			for _, many := range []int{1, 6, 7, 8, 4096} {
				checkDoError(t, p, inv, slices.Repeat([]uint64{greatest}, many), api.ErrSize)
			}
		}
		for _, r := range []int{3, 5} {
			for at := range r {
				checkDoError(t, api.P1, inv, lone(r, at, api.P1), api.ErrOrder)
				checkDoError(t, api.P1, inv, lone(r, at, greatest), api.ErrOrder)
			}
		}
	}
}

func TestWeighWrittenOut(t *testing.T) {
	for _, p := range primes() {
		for _, inv := range ways() {
			checkWeigh(t, p, inv, []uint64{3, 5}, []uint64{1, 0}, 8, api.OK)
			checkWeigh(t, p, inv, []uint64{3, 5}, []uint64{0, 1}, p-2, api.OK)
			checkWeigh(t, p, inv, []uint64{3, 5}, []uint64{10, 3}, 74, api.OK)
			checkWeigh(t, p, inv, []uint64{3, 5}, []uint64{p - 1, p - 1}, p-6, api.OK)
			checkWeigh(t, p, inv, []uint64{3, 5}, []uint64{0, 0}, 0, api.OK)
		}
	}
	checkWeigh(t, api.P1, false, []uint64{1, 2, 3, 4}, []uint64{0, 1, 0, 0}, 173167434, api.OK)
	checkWeigh(t, api.P1, false, []uint64{1, 2, 3, 4}, []uint64{0, 1, 0, 1}, 998244349, api.OK)
	checkWeigh(t, api.P2, true, []uint64{1, 2, 3, 4, 5}, []uint64{0, 0, 0, 0, 1}, 1594055901, api.OK)
}

// A weight that is 1 alone tells each word of Do.
func TestWeighByLoneWeights(t *testing.T) {
	c := chance(2)
	eachRadix(func(p uint64, r int, inv bool) {
		x := c.numbers(p, r)
		y := wantDo(p, inv, x)
		for at := range r {
			checkWeigh(t, p, inv, x, lone(r, at, 1), y[at], api.OK)
			for _, a := range kinds(p) {
				checkWeigh(t, p, inv, x, lone(r, at, a), times(p, y[at], a), api.OK)
			}
		}
	})
}

func TestWeighByReckoning(t *testing.T) {
	c := chance(3)
	eachRadix(func(p uint64, r int, inv bool) {
		for _, a := range kinds(p) {
			for _, b := range kinds(p) {
				x, w := slices.Repeat([]uint64{a}, r), slices.Repeat([]uint64{b}, r)
				checkWeigh(t, p, inv, x, w, wantWeigh(p, inv, x, w), api.OK)
			}
		}
		for range 300 {
			x, w := c.numbers(p, r), c.numbers(p, r)
			checkWeigh(t, p, inv, x, w, wantWeigh(p, inv, x, w), api.OK)
		}
	})
}

func TestWeighByWeightsOfAnotherLength(t *testing.T) {
	eachRadix(func(p uint64, r int, inv bool) {
		x := kinds(p)[:r]
		for many := range 12 {
			if many != r {
				checkWeigh(t, p, inv, x, make([]uint64, many), 0, api.ErrLen)
			}
		}
		checkWeigh(t, p, inv, x, nil, 0, api.ErrLen)
		checkWeigh(t, p, inv, make([]uint64, r), nil, 0, api.ErrLen)
		for _, many := range []int{2 * r, r + 256, r + 65536} {
			checkWeigh(t, p, inv, x, make([]uint64, many), 0, api.ErrLen)
		}
	})
}

func TestWeighByWeightsThatAreNoNumbers(t *testing.T) {
	eachRadix(func(p uint64, r int, inv bool) {
		for _, x := range [][]uint64{make([]uint64, r), kinds(p)[:r]} {
			for _, bad := range beyond(p) {
				for at := range r {
					checkWeigh(t, p, inv, x, lone(r, at, bad), 0, api.ErrWord)
					checkWeigh(t, p, inv, x, with(slices.Repeat([]uint64{p - 1}, r), at, bad), 0, api.ErrWord)
				}
				checkWeigh(t, p, inv, x, slices.Repeat([]uint64{bad}, r), 0, api.ErrWord)
			}
		}
	})
}

// Words are told ahead of how many weights there are, and that ahead of the weights.
func TestWeighThatIsWrongTwice(t *testing.T) {
	eachRadix(func(p uint64, r int, inv bool) {
		for _, bad := range beyond(p) {
			for many := range 8 {
				w := slices.Repeat([]uint64{bad}, many)
				for at := range r {
					checkWeigh(t, p, inv, lone(r, at, bad), w, 0, api.ErrWord)
					checkWeigh(t, p, inv, lone(r, at, bad), make([]uint64, many), 0, api.ErrWord)
				}
				if many != r {
					checkWeigh(t, p, inv, make([]uint64, r), w, 0, api.ErrLen)
				}
				if many > 0 && many != r {
					checkWeigh(t, p, inv, kinds(p)[:r], lone(many, 0, bad), 0, api.ErrLen)
					checkWeigh(t, p, inv, kinds(p)[:r], lone(many, many-1, bad), 0, api.ErrLen)
				}
			}
		}
	})
}

// There and back each word is times the radix.
func TestThereAndBack(t *testing.T) {
	c := chance(4)
	eachRadix(func(p uint64, r int, inv bool) {
		for range 100 {
			x := c.numbers(p, r)
			checkDo(t, p, !inv, told(t, p, inv, x), scaled(p, x, uint64(r)), api.OK)
		}
	})
}

// Twice the same way each word is times the radix too, but in the place that it lacks to the radix.
func TestTwiceTheSameWay(t *testing.T) {
	c := chance(5)
	eachRadix(func(p uint64, r int, inv bool) {
		x := c.numbers(p, r)
		turned := make([]uint64, r)
		for i := range x {
			turned[(r-i)%r] = times(p, x[i], uint64(r))
		}
		checkDo(t, p, inv, told(t, p, inv, x), turned, api.OK)
	})
}

func TestSumsAndScalesGoThrough(t *testing.T) {
	c := chance(6)
	eachRadix(func(p uint64, r int, inv bool) {
		for range 60 {
			x, z, w, a := c.numbers(p, r), c.numbers(p, r), c.numbers(p, r), c.number(p)
			y, v := told(t, p, inv, x), told(t, p, inv, z)
			checkDo(t, p, inv, together(p, x, z), together(p, y, v), api.OK)
			checkDo(t, p, inv, scaled(p, x, a), scaled(p, y, a), api.OK)
			first, second := wantWeigh(p, inv, x, w), wantWeigh(p, inv, z, w)
			checkWeigh(t, p, inv, together(p, x, z), w, plus(p, first, second), api.OK)
			checkWeigh(t, p, inv, x, scaled(p, w, a), times(p, first, a), api.OK)
			checkWeigh(t, p, inv, x, together(p, w, z), plus(p, first, wantWeigh(p, inv, x, z)), api.OK)
		}
	})
}

// The sum of all words of Do is the radix times the first one, and the first word of Do the sum of all.
func TestSumsOfAllWords(t *testing.T) {
	c := chance(7)
	eachRadix(func(p uint64, r int, inv bool) {
		for range 60 {
			x := c.numbers(p, r)
			y := told(t, p, inv, x)
			if got, want := sumOf(p, y), times(p, x[0], uint64(r)); got != want {
				t.Errorf("Do by %d, %v of %v has the sum %d, want %d", p, inv, x, got, want)
			}
			if got, want := y[0], sumOf(p, x); got != want {
				t.Errorf("Do by %d, %v of %v begins with %d, want %d", p, inv, x, got, want)
			}
			checkWeigh(t, p, inv, x, slices.Repeat([]uint64{1}, r), times(p, x[0], uint64(r)), api.OK)
		}
	})
}

// inside is l within a longer list, so that what stands behind it is to be seen.
func inside(l []uint64) ([]uint64, []uint64) {
	longer := slices.Concat([]uint64{77, 78}, l, []uint64{79, 80, 81, 82, 83, 84})
	return longer[2 : 2+len(l)], longer
}

// scribble writes into all of a list, up to its cap.
func scribble(l []uint64) {
	l = l[:cap(l)]
	for i := range l {
		l[i] = 123456789
	}
}

func TestWhatIsHandedInStays(t *testing.T) {
	c := chance(8)
	eachRadix(func(p uint64, r int, inv bool) {
		x, longer := inside(c.numbers(p, r))
		w, around := inside(c.numbers(p, r))
		was, weights := slices.Clone(longer), slices.Clone(around)
		scribble(told(t, p, inv, x))
		checkWeigh(t, p, inv, x, w, wantWeigh(p, inv, x, w), api.OK)
		if !slices.Equal(longer, was) || !slices.Equal(around, weights) {
			t.Errorf("by %d, %v what was handed in is %v, %v, was %v, %v", p, inv, longer, around, was, weights)
		}
		x[r-1], w[0] = p, greatest
		was, weights = slices.Clone(longer), slices.Clone(around)
		checkDo(t, p, inv, x, nil, api.ErrWord)
		checkWeigh(t, p, inv, x, w, 0, api.ErrWord)
		if !slices.Equal(longer, was) || !slices.Equal(around, weights) {
			t.Errorf("by %d, %v what was handed in with an error is %v, %v, was %v, %v", p, inv, longer, around, was, weights)
		}
	})
}

// What was told stays, whatever is written into what was handed in, or is told later; and later calls do not hang on what is written into it.
func TestWhatIsToldIsNew(t *testing.T) {
	c := chance(9)
	eachRadix(func(p uint64, r int, inv bool) {
		x := c.numbers(p, r)
		kept := slices.Clone(x)
		y := told(t, p, inv, x)
		points, _ := Points(p, r, inv)
		was := slices.Clone(y)
		scribble(x)
		scribble(told(t, p, inv, kept))
		if !slices.Equal(y, was) {
			t.Errorf("by %d, %v what was told is %v, was %v", p, inv, y, was)
		}
		scribble(y)
		scribble(points)
		checkPoints(t, p, r, inv, wantPoints(p, r, inv), api.OK)
		checkDo(t, p, inv, kept, was, api.OK)
		checkWeigh(t, p, inv, kept, lone(r, 1, 1), was[1], api.OK)
	})
}

// A call hangs on no call ahead of it, be that one of another prime, or one with an error.
func TestAskedAgain(t *testing.T) {
	c := chance(10)
	for range 200 {
		p, r, inv := primes()[c.next(3)], radices()[c.next(4)], c.next(2) == 1
		x, w := c.numbers(p, r), c.numbers(p, r)
		if !rooted(p, r) {
			checkDoError(t, p, inv, x, api.ErrOrder)
			continue
		}
		for range 2 {
			checkPoints(t, p, r, inv, wantPoints(p, r, inv), api.OK)
			checkDo(t, p, inv, x, wantDo(p, inv, x), api.OK)
			checkWeigh(t, p, inv, x, w, wantWeigh(p, inv, x, w), api.OK)
			checkDoError(t, p, inv, with(x, r-1, p), api.ErrWord)
			checkPoints(t, p, 6, inv, nil, api.ErrSize)
		}
	}
}
