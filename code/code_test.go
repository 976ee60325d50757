package code

import (
	"fmt"
	"math"
	"math/big"
	"slices"
	"testing"

	"bracken/api"
)

const greatest = math.MaxUint64

// most is how many words a codeword has, behind them there are six cells.
const most = 4096

func primes() []uint64 { return []uint64{api.P0, api.P1, api.P2} }

// others are no primes that are known: some next to those that are, and some that are primes all the same.
func others() []uint64 {
	return []uint64{0, 1, 2, 3, 7, 9, 17, 257, 65537, api.P0 - 1, api.P0 + 1, api.P1 - 1, api.P1 + 1, api.P2 - 1, api.P2 + 1, api.P1 * 3, 1 << 63, greatest}
}

// kinds are numbers of p, some of them with few bits, some next to p.
func kinds(p uint64) []uint64 {
	return []uint64{0, 1, 2, 3, 7, 1 << 16, p / 2, p/2 + 1, p - 3, p - 2, p - 1}
}

// beyond are words that are no numbers of p.
func beyond(p uint64) []uint64 {
	return []uint64{p, p + 1, p + 7, greatest - 1, greatest}
}

// chance tells numbers by a fixed rule, so that each run has the same.
type chance uint64

func (c *chance) next(below int) int {
	*c = *c*6364136223846793005 + 1442695040888963407
	return int((uint64(*c) >> 33) % uint64(below))
}

func (c *chance) word() uint64 {
	return uint64(c.next(1<<30))<<34 ^ uint64(c.next(1<<30))<<4 ^ uint64(c.next(1<<30))
}

func (c *chance) number(p uint64) uint64 {
	if c.next(4) == 0 {
		return kinds(p)[c.next(len(kinds(p)))]
	}
	return c.word() % p
}

// any is a number of p as often as it is none, by P0 too.
func (c *chance) any(p uint64) uint64 {
	if c.next(2) == 0 {
		return beyond(p)[c.next(len(beyond(p)))]
	}
	return c.number(p)
}

func (c *chance) numbers(p uint64, many int) []uint64 {
	l := make([]uint64, many)
	for i := range l {
		l[i] = c.number(p)
	}
	return l
}

// rising are numbers of each prime, no two of them the same.
func rising(many int) []uint64 {
	l := make([]uint64, many)
	for i := range l {
		l[i] = uint64(i)*100003 + 5
	}
	return l
}

// left is what is left over of a whole number by p, 0 to p - 1, also of one below 0.
func left(n *big.Int, p uint64) uint64 {
	return new(big.Int).Mod(n, new(big.Int).SetUint64(p)).Uint64()
}

// wantSums adds whole numbers, and only then takes what is left over.
func wantSums(p uint64, l []uint64) [2]uint64 {
	first, second := new(big.Int), new(big.Int)
	for i, w := range l {
		word := new(big.Int).SetUint64(w)
		first.Add(first, word)
		second.Add(second, word.Mul(word, big.NewInt(int64(i)+1)))
	}
	return [2]uint64{left(first, p), left(second, p)}
}

// laid is l with these sums behind it, each three times.
func laid(l []uint64, sums [2]uint64) []uint64 {
	c := slices.Clone(l)
	return append(c, sums[0], sums[0], sums[0], sums[1], sums[1], sums[1])
}

func wantPut(p uint64, l []uint64) []uint64 {
	return laid(l, wantSums(p, l))
}

// numbered tells whether all of l are numbers of p.
func numbered(p uint64, l []uint64) bool {
	for _, w := range l {
		if w >= p {
			return false
		}
	}
	return true
}

// elected is the word of two of three.
func elected(a, b, c uint64) (uint64, bool) {
	switch {
	case a == b || a == c:
		return a, true
	case b == c:
		return b, true
	}
	return 0, false
}

// wantWords goes by the document's words: each place is tried, by the one number that the first sum leaves for it.
func wantWords(p uint64, l []uint64, sums [2]uint64) ([]uint64, bool) {
	if numbered(p, l) && wantSums(p, l) == sums {
		return l, true
	}
	var found [][]uint64
	for i := range l {
		tried := slices.Clone(l)
		tried[i] = 0
		lack := new(big.Int).SetUint64(sums[0])
		lack.Sub(lack, new(big.Int).SetUint64(wantSums(p, tried)[0]))
		tried[i] = left(lack, p)
		if tried[i] != l[i] && numbered(p, tried) && wantSums(p, tried) == sums {
			found = append(found, tried)
		}
	}
	if len(found) > 1 {
		panic("there is never more than one such place")
	}
	if len(found) == 0 {
		return nil, false
	}
	return found[0], true
}

func wantFix(p uint64, c []uint64) ([]uint64, []api.Fix, api.Errno) {
	end := len(c) - 6
	first, ok := elected(c[end], c[end+1], c[end+2])
	second, also := elected(c[end+3], c[end+4], c[end+5])
	if !ok || !also {
		return nil, nil, api.ErrLost
	}
	sums := [2]uint64{first, second}
	words, ok := wantWords(p, c[:end], sums)
	if !ok {
		return nil, nil, api.ErrLost
	}
	right := laid(words, sums)
	return right, differences(c, right), api.OK
}

func differences(c, right []uint64) []api.Fix {
	var fixes []api.Fix
	for i := range c {
		if c[i] != right[i] {
			fixes = append(fixes, api.Fix{Addr: i, Bad: c[i], Good: right[i]})
		}
	}
	return fixes
}

// short is how much of a list a message has.
func short[T any](l []T) string {
	return fmt.Sprintf("%d, %v", len(l), l[:min(len(l), 12)])
}

func checkSums(t *testing.T, p uint64, l []uint64, want [2]uint64, wrong api.Errno) {
	t.Helper()
	if got, e := Sums(p, l); got != want || e != wrong {
		t.Errorf("Sums by %d of %s is %v, %d, want %v, %d", p, short(l), got, e, want, wrong)
	}
}

func checkPut(t *testing.T, p uint64, l, want []uint64, wrong api.Errno) {
	t.Helper()
	if got, e := Put(p, l); !slices.Equal(got, want) || e != wrong {
		t.Errorf("Put by %d of %s is %s, %d, want %s, %d", p, short(l), short(got), e, short(want), wrong)
	}
}

func checkLook(t *testing.T, p uint64, c []uint64, want bool, wrong api.Errno) {
	t.Helper()
	if got, e := Look(p, c); got != want || e != wrong {
		t.Errorf("Look by %d of %s is %v, %d, want %v, %d", p, short(c), got, e, want, wrong)
	}
}

func checkFix(t *testing.T, p uint64, c, want []uint64, fixed []api.Fix, wrong api.Errno) {
	t.Helper()
	if got, fixes, e := Fix(p, c); !slices.Equal(got, want) || !slices.Equal(fixes, fixed) || e != wrong {
		t.Errorf("Fix by %d of %s is %s, %s, %d, want %s, %s, %d", p, short(c), short(got), short(fixes), e, short(want), short(fixed), wrong)
	}
}

// checkFixError wants an error, and neither words nor fixes.
func checkFixError(t *testing.T, p uint64, c []uint64, wrong api.Errno) {
	t.Helper()
	checkFix(t, p, c, nil, nil, wrong)
}

// checkFixed wants the codeword right of c, which has other words in it.
func checkFixed(t *testing.T, p uint64, c, right []uint64) {
	t.Helper()
	checkFix(t, p, c, right, differences(c, right), api.OK)
}

// checkFixBySaying wants what the document's words say of c.
func checkFixBySaying(t *testing.T, p uint64, c []uint64) {
	t.Helper()
	right, fixes, wrong := wantFix(p, c)
	checkFix(t, p, c, right, fixes, wrong)
}

// with is c with another word in one place.
func with(c []uint64, at int, w uint64) []uint64 {
	other := slices.Clone(c)
	other[at] = w
	return other
}

func TestLimits(t *testing.T) {
	if api.MaxAll != most {
		t.Fatalf("MaxAll is %d, want %d", api.MaxAll, most)
	}
}

func TestSumsWrittenOut(t *testing.T) {
	checkSums(t, api.P1, []uint64{3, 1, 2}, [2]uint64{6, 11}, api.OK)
	checkSums(t, api.P1, []uint64{2, 1, 3}, [2]uint64{6, 13}, api.OK)
	checkSums(t, api.P0, []uint64{3, 1, 2}, [2]uint64{6, 11}, api.OK)
	checkSums(t, api.P2, []uint64{3, 1, 2}, [2]uint64{6, 11}, api.OK)
	checkSums(t, api.P1, []uint64{api.P1 - 1, 5, api.P1}, [2]uint64{4, 9}, api.OK)
	checkSums(t, api.P0, []uint64{api.P0 - 1, api.P0 - 1}, [2]uint64{api.P0 - 2, api.P0 - 3}, api.OK)
	checkSums(t, api.P0, []uint64{greatest}, [2]uint64{1<<32 - 2, 1<<32 - 2}, api.OK)
	checkSums(t, api.P0, []uint64{greatest, greatest}, [2]uint64{1<<33 - 4, 3*(1<<32) - 6}, api.OK)
	checkSums(t, api.P2, []uint64{0, 0, 1}, [2]uint64{1, 3}, api.OK)
	checkSums(t, api.P2, []uint64{0, 0, api.P2 + 1}, [2]uint64{1, 3}, api.OK)
	checkSums(t, api.P2, []uint64{api.P2}, [2]uint64{}, api.OK)
}

func TestSumsOfNone(t *testing.T) {
	for _, p := range primes() {
		checkSums(t, p, nil, [2]uint64{}, api.OK)
		checkSums(t, p, []uint64{}, [2]uint64{}, api.OK)
	}
}

func TestSumsOfOne(t *testing.T) {
	for _, p := range primes() {
		for _, w := range slices.Concat(kinds(p), beyond(p)) {
			checkSums(t, p, []uint64{w}, [2]uint64{w % p, w % p}, api.OK)
		}
	}
}

// Words are counted by p, be they numbers of it or not.
func TestSumsBySaying(t *testing.T) {
	c := chance(1)
	for _, p := range primes() {
		all := slices.Concat(kinds(p), beyond(p))
		checkSums(t, p, all, wantSums(p, all), api.OK)
		for _, a := range all {
			for _, b := range all {
				l := []uint64{a, b}
				checkSums(t, p, l, wantSums(p, l), api.OK)
				l = []uint64{b, a, 0, b, a}
				checkSums(t, p, l, wantSums(p, l), api.OK)
			}
		}
		for range 100 {
			l := make([]uint64, c.next(40))
			for i := range l {
				l[i] = c.any(p)
			}
			checkSums(t, p, l, wantSums(p, l), api.OK)
		}
	}
}

// A word of 1 in one place alone counts its place, from 1.
func TestSumsOfEachPlace(t *testing.T) {
	for _, p := range primes() {
		l := make([]uint64, most)
		for i := 0; i < most; i += 63 {
			l[i] = 1
			checkSums(t, p, l, [2]uint64{1, uint64(i) + 1}, api.OK)
			l[i] = p - 1
			checkSums(t, p, l, [2]uint64{p - 1, p - uint64(i) - 1}, api.OK)
			l[i] = 0
		}
	}
}

func TestSumsOfAsManyAsMayBe(t *testing.T) {
	c := chance(2)
	for _, p := range primes() {
		for _, l := range [][]uint64{make([]uint64, most), rising(most), c.numbers(p, most), slices.Repeat([]uint64{p - 1}, most), slices.Repeat([]uint64{greatest}, most)} {
			checkSums(t, p, l, wantSums(p, l), api.OK)
			checkSums(t, p, l[1:], wantSums(p, l[1:]), api.OK)
		}
		checkSums(t, p, slices.Repeat([]uint64{1}, most), [2]uint64{4096, 8390656}, api.OK)
	}
}

func TestSumsOfTooMany(t *testing.T) {
	for _, p := range primes() {
		for _, many := range []int{most + 1, most + 2, most + 6, 2 * most, 65536, 65537} {
			checkSums(t, p, make([]uint64, many), [2]uint64{}, api.ErrArg)
			checkSums(t, p, rising(many), [2]uint64{}, api.ErrArg)
		}
		l := rising(most + 1)
		checkSums(t, p, l[:most], wantSums(p, l[:most]), api.OK)
		checkSums(t, p, l[1:], wantSums(p, l[1:]), api.OK)
	}
}

func TestSumsByNoPrime(t *testing.T) {
	for _, p := range others() {
		for _, l := range [][]uint64{nil, {}, {0}, {3, 1, 2}, {greatest}, rising(most), rising(most + 1)} {
			checkSums(t, p, l, [2]uint64{}, api.ErrPrime)
		}
	}
}

func TestPutWrittenOut(t *testing.T) {
	checkPut(t, api.P1, []uint64{3, 1, 2}, []uint64{3, 1, 2, 6, 6, 6, 11, 11, 11}, api.OK)
	checkPut(t, api.P1, []uint64{0}, []uint64{0, 0, 0, 0, 0, 0, 0}, api.OK)
	checkPut(t, api.P1, []uint64{7}, []uint64{7, 7, 7, 7, 7, 7, 7}, api.OK)
	checkPut(t, api.P1, []uint64{0, 1}, []uint64{0, 1, 1, 1, 1, 2, 2, 2}, api.OK)
	checkPut(t, api.P1, []uint64{api.P1 - 1, 5}, []uint64{api.P1 - 1, 5, 4, 4, 4, 9, 9, 9}, api.OK)
	checkPut(t, api.P2, []uint64{api.P1, 1}, []uint64{api.P1, 1, api.P1 + 1, api.P1 + 1, api.P1 + 1, api.P1 + 2, api.P1 + 2, api.P1 + 2}, api.OK)
	checkPut(t, api.P0, []uint64{api.P0 - 1, api.P0 - 1}, []uint64{api.P0 - 1, api.P0 - 1, api.P0 - 2, api.P0 - 2, api.P0 - 2, api.P0 - 3, api.P0 - 3, api.P0 - 3}, api.OK)
}

func TestPutOfOne(t *testing.T) {
	for _, p := range primes() {
		for _, w := range kinds(p) {
			checkPut(t, p, []uint64{w}, []uint64{w, w, w, w, w, w, w}, api.OK)
		}
	}
}

func TestPutBySaying(t *testing.T) {
	c := chance(3)
	for _, p := range primes() {
		for _, a := range kinds(p) {
			for _, b := range kinds(p) {
				checkPut(t, p, []uint64{a, b}, wantPut(p, []uint64{a, b}), api.OK)
			}
		}
		for many := 1; many < 60; many++ {
			l := c.numbers(p, many)
			checkPut(t, p, l, wantPut(p, l), api.OK)
		}
	}
}

func TestPutOfAsManyAsMayBe(t *testing.T) {
	c := chance(4)
	for _, p := range primes() {
		for _, l := range [][]uint64{make([]uint64, most), rising(most), c.numbers(p, most), slices.Repeat([]uint64{p - 1}, most), rising(most - 1)} {
			checkPut(t, p, l, wantPut(p, l), api.OK)
		}
	}
}

func TestPutOfNoneOrTooMany(t *testing.T) {
	for _, p := range primes() {
		checkPut(t, p, nil, nil, api.ErrArg)
		checkPut(t, p, []uint64{}, nil, api.ErrArg)
		for _, many := range []int{most + 1, most + 2, most + 6, most + 7, 2 * most, 65536} {
			checkPut(t, p, make([]uint64, many), nil, api.ErrArg)
			checkPut(t, p, rising(many), nil, api.ErrArg)
		}
	}
}

func TestPutOfNoNumber(t *testing.T) {
	for _, p := range primes() {
		for _, bad := range beyond(p) {
			for _, many := range []int{1, 2, 3, 9, most} {
				for _, at := range []int{0, many / 2, many - 1} {
					checkPut(t, p, with(rising(many), at, bad), nil, api.ErrWord)
				}
			}
			checkPut(t, p, slices.Repeat([]uint64{bad}, 5), nil, api.ErrWord)
			checkPut(t, p, []uint64{bad, 0, bad}, nil, api.ErrWord)
		}
	}
}

// A number of one prime is none of another.
func TestPutOfANumberOfAnotherPrime(t *testing.T) {
	checkPut(t, api.P1, []uint64{1, api.P1}, nil, api.ErrWord)
	checkPut(t, api.P2, []uint64{0, api.P1}, wantPut(api.P2, []uint64{0, api.P1}), api.OK)
	checkPut(t, api.P1, []uint64{api.P2 - 1}, nil, api.ErrWord)
	checkPut(t, api.P2, []uint64{api.P2}, nil, api.ErrWord)
	checkPut(t, api.P0, []uint64{api.P2}, wantPut(api.P0, []uint64{api.P2}), api.OK)
}

// Which error is told if several things are wrong: the prime first, then how many there are, then the words.
func TestPutThatIsWrongTwice(t *testing.T) {
	for _, p := range others() {
		for _, l := range [][]uint64{nil, {}, {0}, {3, 1, 2}, {greatest}, rising(most), rising(most + 1), slices.Repeat([]uint64{greatest}, most+1)} {
			checkPut(t, p, l, nil, api.ErrPrime)
		}
	}
	for _, p := range primes() {
		checkPut(t, p, slices.Repeat([]uint64{greatest}, most+1), nil, api.ErrArg)
		checkPut(t, p, with(rising(most+1), 0, p), nil, api.ErrArg)
		checkPut(t, p, with(rising(most+1), most, p), nil, api.ErrArg)
	}
}

func TestLookOfWhatIsPut(t *testing.T) {
	c := chance(5)
	for _, p := range primes() {
		for _, many := range []int{1, 2, 3, 7, 50, most - 1, most} {
			checkLook(t, p, wantPut(p, rising(many)), true, api.OK)
			checkLook(t, p, wantPut(p, c.numbers(p, many)), true, api.OK)
			checkLook(t, p, make([]uint64, many+6), true, api.OK)
		}
	}
	checkLook(t, api.P1, []uint64{3, 1, 2, 6, 6, 6, 11, 11, 11}, true, api.OK)
	checkLook(t, api.P1, []uint64{3, 1, 2, 6, 6, 6, 13, 13, 13}, false, api.OK)
	checkLook(t, api.P1, []uint64{3, 1, 2, 6, 11, 6, 11, 6, 11}, false, api.OK)
	checkLook(t, api.P1, []uint64{3, 1, 2, 11, 11, 11, 6, 6, 6}, false, api.OK)
}

// A length is below what a codeword has, or beyond it, or may be.
func TestLengths(t *testing.T) {
	for _, p := range primes() {
		for many := range 20 {
			c := make([]uint64, many)
			if many < 7 {
				checkLook(t, p, c, false, api.ErrLen)
				checkFixError(t, p, c, api.ErrLen)
				continue
			}
			checkLook(t, p, c, true, api.OK)
			checkFix(t, p, c, c, nil, api.OK)
		}
		checkLook(t, p, nil, false, api.ErrLen)
		checkFixError(t, p, nil, api.ErrLen)
		for _, many := range []int{most + 5, most + 6} {
			c := make([]uint64, many)
			checkLook(t, p, c, true, api.OK)
			checkFix(t, p, c, c, nil, api.OK)
		}
		for _, many := range []int{most + 7, most + 8, 2 * most, 65536} {
			for _, c := range [][]uint64{make([]uint64, many), rising(many), wantPut(p, rising(many-6))} {
				checkLook(t, p, c, false, api.ErrLen)
				checkFixError(t, p, c, api.ErrLen)
			}
		}
	}
}

// The prime is told ahead of the length, and the length ahead of what is lost.
func TestLookAndFixThatAreWrongTwice(t *testing.T) {
	lost := []uint64{1, 2, 3, 4, 5, 6, 7}
	for _, p := range others() {
		for _, c := range [][]uint64{nil, {}, {0}, lost[1:], lost, make([]uint64, 9), {3, 1, 2, 6, 6, 6, 11, 11, 11}, make([]uint64, most+6), rising(most + 7)} {
			checkLook(t, p, c, false, api.ErrPrime)
			checkFixError(t, p, c, api.ErrPrime)
		}
	}
	for _, p := range primes() {
		checkFixError(t, p, lost, api.ErrLost)
		checkFixError(t, p, lost[1:], api.ErrLen)
		checkFixError(t, p, rising(most+7), api.ErrLen)
		checkFixError(t, p, rising(most+6), api.ErrLost)
		checkLook(t, p, lost, false, api.OK)
		checkLook(t, p, rising(most+6), false, api.OK)
		checkLook(t, p, slices.Repeat([]uint64{greatest}, most+7), false, api.ErrLen)
	}
}

func TestLookOfOneOtherWord(t *testing.T) {
	for _, p := range primes() {
		for _, l := range [][]uint64{{0}, {5}, {3, 1, 2}, kinds(p), rising(20)} {
			c := wantPut(p, l)
			for at := range c {
				for _, w := range slices.Concat(kinds(p), beyond(p), []uint64{c[at] ^ 1, c[at] ^ 1<<63, c[at] + p, ^c[at]}) {
					checkLook(t, p, with(c, at, w), w == c[at], api.OK)
				}
			}
		}
	}
}

func TestLookOfOneOtherWordAmongMany(t *testing.T) {
	for _, p := range primes() {
		c := wantPut(p, rising(most))
		for at := 0; at < len(c); at += 321 {
			checkLook(t, p, with(c, at, c[at]^4), false, api.OK)
		}
		for at := most - 1; at < len(c); at++ {
			checkLook(t, p, with(c, at, c[at]^4), false, api.OK)
		}
	}
}

// One bit is enough, whichever it is.
func TestLookOfOneBit(t *testing.T) {
	for _, p := range primes() {
		c := wantPut(p, []uint64{3, 1, p - 1})
		for at := range c {
			for bit := range 64 {
				checkLook(t, p, with(c, at, c[at]^1<<bit), false, api.OK)
			}
		}
	}
}

// Words of which one is no number of p are none of a codeword, also if their sums stand behind them.
func TestLookOfNoNumbers(t *testing.T) {
	for _, p := range primes() {
		for _, bad := range beyond(p) {
			for at := range 3 {
				l := with([]uint64{3, 1, 2}, at, bad)
				checkLook(t, p, wantPut(p, l), false, api.OK)
			}
			checkLook(t, p, slices.Repeat([]uint64{bad}, 7), false, api.OK)
			checkLook(t, p, []uint64{bad, bad % p, bad % p, bad % p, bad % p, bad % p, bad % p}, false, api.OK)
			checkLook(t, p, []uint64{bad % p, bad, bad, bad, bad, bad, bad}, false, api.OK)
		}
	}
}

func TestLookOfACodewordByAnotherPrime(t *testing.T) {
	for _, p := range primes() {
		for _, q := range primes() {
			c := wantPut(p, []uint64{p - 1, p - 2, 3})
			checkLook(t, q, c, p == q, api.OK)
			checkLook(t, q, wantPut(p, []uint64{3, 1, 2}), true, api.OK)
		}
	}
}

// With two words changed, be they of the words or of the cells, it is no codeword.
func TestLookOfTwoOtherWords(t *testing.T) {
	for _, p := range primes() {
		c := wantPut(p, []uint64{3, p - 1, 0, 9})
		for i := range c {
			for j := range i {
				for _, a := range kinds(p) {
					for _, b := range append(beyond(p), 0, 1, p-1, left(new(big.Int).Sub(big.NewInt(int64(c[i]%p)), big.NewInt(int64(a))), p)) {
						d := with(with(c, i, a), j, b)
						if d[i] != c[i] && d[j] != c[j] {
							checkLook(t, p, d, false, api.OK)
						}
					}
				}
			}
		}
	}
}

// What one word has more another one has less: the first sum stays, the second one tells.
func TestTwoWordsThatLeaveTheFirstSum(t *testing.T) {
	for _, p := range primes() {
		l := []uint64{3, 1, 2, 9, 4}
		c := wantPut(p, l)
		for i := range l {
			for j := range l {
				if i == j {
					continue
				}
				d := with(with(c, i, c[i]+1), j, c[j]-1)
				checkLook(t, p, d, false, api.OK)
				checkFixError(t, p, d, api.ErrLost)
			}
		}
	}
}

func TestFixWrittenOut(t *testing.T) {
	right := []uint64{3, 1, 2, 6, 6, 6, 11, 11, 11}
	checkFix(t, api.P1, right, right, nil, api.OK)
	checkFix(t, api.P1, []uint64{3, 9, 2, 6, 6, 6, 11, 11, 11}, right, []api.Fix{{Addr: 1, Bad: 9, Good: 1}}, api.OK)
	checkFix(t, api.P1, []uint64{0, 1, 2, 6, 6, 6, 11, 11, 11}, right, []api.Fix{{Addr: 0, Bad: 0, Good: 3}}, api.OK)
	checkFix(t, api.P1, []uint64{3, 1, greatest, 6, 6, 6, 11, 11, 11}, right, []api.Fix{{Addr: 2, Bad: greatest, Good: 2}}, api.OK)
	checkFix(t, api.P1, []uint64{3, 1, 2, 6, 7, 6, 11, 11, 11}, right, []api.Fix{{Addr: 4, Bad: 7, Good: 6}}, api.OK)
	checkFix(t, api.P1, []uint64{3, 1, 2, 6, 6, 6, 11, 11, 6}, right, []api.Fix{{Addr: 8, Bad: 6, Good: 11}}, api.OK)
	checkFix(t, api.P1, []uint64{3, 1, 2, 11, 6, 6, 11, 6, 11}, right, []api.Fix{{Addr: 3, Bad: 11, Good: 6}, {Addr: 7, Bad: 6, Good: 11}}, api.OK)
	checkFix(t, api.P1, []uint64{3, 9, 2, 6, 0, 6, 0, 11, 11}, right, []api.Fix{{Addr: 1, Bad: 9, Good: 1}, {Addr: 4, Bad: 0, Good: 6}, {Addr: 6, Bad: 0, Good: 11}}, api.OK)
	checkFixError(t, api.P1, []uint64{2, 2, 2, 6, 6, 6, 11, 11, 11}, api.ErrLost)
	checkFixError(t, api.P1, []uint64{3, 1, 2, 6, 5, 4, 11, 11, 11}, api.ErrLost)
	checkFixError(t, api.P1, []uint64{3, 1, 2, 6, 6, 6, 11, 12, 13}, api.ErrLost)
}

func TestFixOfACodeword(t *testing.T) {
	c := chance(6)
	for _, p := range primes() {
		for _, many := range []int{1, 2, 3, 30, most - 1, most} {
			for _, l := range [][]uint64{make([]uint64, many), rising(many), c.numbers(p, many), slices.Repeat([]uint64{p - 1}, many)} {
				right := wantPut(p, l)
				checkFix(t, p, right, right, nil, api.OK)
			}
		}
	}
}

// Each of its words, and each of its cells, is made each of many others.
func TestFixOfOneOtherWord(t *testing.T) {
	for _, p := range primes() {
		for _, l := range [][]uint64{{0}, {5}, {p - 1}, {3, 1, 2}, {0, 0, 0, 0}, kinds(p), rising(20)} {
			right := wantPut(p, l)
			for at := range right {
				for _, w := range slices.Concat(kinds(p), beyond(p), []uint64{right[at] ^ 1, right[at] ^ 1<<63, right[at] + p, ^right[at]}) {
					checkFixed(t, p, with(right, at, w), right)
				}
			}
		}
	}
}

func TestFixOfOneOtherWordAmongMany(t *testing.T) {
	for _, p := range primes() {
		right := wantPut(p, rising(most))
		for at := 0; at < len(right); at += 223 {
			checkFixed(t, p, with(right, at, right[at]^4), right)
			checkFixed(t, p, with(right, at, greatest-uint64(at)), right)
		}
		for at := most - 2; at < len(right); at++ {
			checkFixed(t, p, with(right, at, p), right)
			checkFixed(t, p, with(right, at, right[at]^2), right)
		}
	}
}

func TestFixOfOneBit(t *testing.T) {
	for _, p := range primes() {
		right := wantPut(p, []uint64{3, 0, p - 1})
		for at := range right {
			for bit := range 64 {
				checkFixed(t, p, with(right, at, right[at]^1<<bit), right)
			}
		}
	}
}

// A word that is no number of p, but counts as the right one by p, leaves both sums as they are: it is wrong all the same.
func TestFixOfAWordThatCountsAsTheSame(t *testing.T) {
	for _, p := range primes() {
		for at := range 4 {
			right := wantPut(p, []uint64{3, 1, 2, 0})
			bad := with(right, at, right[at]+p)
			checkFix(t, p, bad, right, []api.Fix{{Addr: at, Bad: right[at] + p, Good: right[at]}}, api.OK)
		}
	}
	right := wantPut(api.P1, []uint64{3, 1, 2, 0})
	checkFix(t, api.P1, with(right, 2, 2+7*api.P1), right, []api.Fix{{Addr: 2, Bad: 2 + 7*api.P1, Good: 2}}, api.OK)
}

// Two words that are no numbers of p are more than can be put right, also if both count as the right ones, or if the sums lead to a third one.
func TestFixOfTwoWordsThatAreNoNumbers(t *testing.T) {
	for _, p := range primes() {
		right := wantPut(p, []uint64{3, 1, 2, 0})
		for i := range 4 {
			for j := range i {
				checkFixError(t, p, with(with(right, i, right[i]+p), j, right[j]+p), api.ErrLost)
				checkFixError(t, p, with(with(right, i, greatest), j, right[j]+p), api.ErrLost)
				checkFixError(t, p, with(with(right, i, right[i]+p), j, greatest), api.ErrLost)
				checkFixError(t, p, with(with(right, i, p), j, p), api.ErrLost)
				checkFixError(t, p, with(with(with(right, i, right[i]+p), j, right[j]+p), (i+j)%4, 8), api.ErrLost)
			}
		}
	}
}

// One word is no number of p, but counts as the right one; another number is wrong: the sums lead to the latter, and mend it, but the former stays.
func TestFixOfANumberAndOfANoNumber(t *testing.T) {
	for _, p := range primes() {
		right := wantPut(p, []uint64{3, 1, 2, 0})
		for i := range 4 {
			for j := range 4 {
				if i != j {
					checkFixError(t, p, with(with(right, i, right[i]+p), j, 8), api.ErrLost)
					checkFixError(t, p, with(with(right, i, right[i]+p), j, p-1), api.ErrLost)
				}
			}
		}
	}
}

// Sums that are no numbers of p are those of no words, also if they count as the right ones.
func TestFixOfSumsThatAreNoNumbers(t *testing.T) {
	for _, p := range primes() {
		for _, l := range [][]uint64{{0}, {3}, {3, 1, 2}, {p - 1, 2, 0}} {
			sums := wantSums(p, l)
			for _, wrong := range [][2]uint64{{sums[0] + p, sums[1]}, {sums[0], sums[1] + p}, {sums[0] + p, sums[1] + p}, {greatest, sums[1]}, {sums[0], greatest}, {greatest, greatest}, {p, p}} {
				if wrong[0] < p && wrong[1] < p {
					continue
				}
				checkFixError(t, p, laid(l, wrong), api.ErrLost)
				for at := range l {
					checkFixError(t, p, laid(with(l, at, 5), wrong), api.ErrLost)
					checkFixError(t, p, laid(with(l, at, l[at]+p), wrong), api.ErrLost)
				}
			}
		}
	}
}

// Cells of which no two are the same are lost, be they those of the first sum or of the second, and whatever the words are.
func TestFixOfLostCells(t *testing.T) {
	for _, p := range primes() {
		for _, l := range [][]uint64{{0}, {3, 1, 2}, {p, 1}, {greatest, greatest, greatest}, rising(most)} {
			right := wantPut(p, l)
			end := len(l)
			first := with(with(right, end, right[end]+1), end+2, right[end]+2)
			second := with(with(right, end+3, right[end+3]+1), end+4, right[end+3]+2)
			checkFixError(t, p, first, api.ErrLost)
			checkFixError(t, p, second, api.ErrLost)
			checkFixError(t, p, with(with(first, end+4, 99), end+5, 98), api.ErrLost)
		}
	}
}

// Of each sum one cell may be wrong, and beside them one word.
func TestFixOfACellOfEachSumAndAWord(t *testing.T) {
	c := chance(7)
	for _, p := range primes() {
		for _, many := range []int{1, 2, 3, 40, most} {
			right := wantPut(p, c.numbers(p, many))
			for range 30 {
				bad := with(right, many+c.next(3), c.any(p))
				bad[many+3+c.next(3)] = c.any(p)
				checkFixed(t, p, bad, right)
				bad[c.next(many)] = c.any(p)
				checkFixed(t, p, bad, right)
			}
		}
	}
}

// Each place of each sum, or none, together with each word, or none.
func TestFixInAllWays(t *testing.T) {
	for _, p := range primes() {
		right := wantPut(p, []uint64{3, p - 1, 0})
		for way := range 4 * 4 * 4 {
			for _, w := range []uint64{0, 1, 6, p - 1, p, greatest} {
				bad := slices.Clone(right)
				for third, place := range []int{way % 4, way / 4 % 4, way / 16} {
					if place < 3 {
						bad[3*third+place] = w
					}
				}
				checkFixed(t, p, bad, right)
			}
		}
	}
}

// Two cells of one sum that are the same outvote the right one: then the words do not have that sum, or another codeword is told.
func TestFixOfTwoCellsOfOneSum(t *testing.T) {
	for _, p := range primes() {
		right := wantPut(p, []uint64{3, 1, 2})
		for _, w := range []uint64{0, 1, 7, 12, p - 1, p, greatest} {
			for at := range 3 {
				checkFixBySaying(t, p, with(with(right, 3+at, w), 3+(at+1)%3, w))
				checkFixBySaying(t, p, with(with(right, 6+at, w), 6+(at+1)%3, w))
			}
		}
	}
	// By the sums 7 and 12 the first word is one less than it must be.
	checkFix(t, api.P1, []uint64{3, 1, 2, 7, 7, 6, 12, 11, 12}, []uint64{4, 1, 2, 7, 7, 7, 12, 12, 12}, []api.Fix{{Addr: 0, Bad: 3, Good: 4}, {Addr: 5, Bad: 6, Good: 7}, {Addr: 7, Bad: 11, Good: 12}}, api.OK)
	checkFixError(t, api.P1, []uint64{3, 1, 2, 7, 7, 6, 11, 11, 11}, api.ErrLost)
	checkFixError(t, api.P1, []uint64{3, 1, 2, 6, 6, 6, 12, 12, 11}, api.ErrLost)
}

// Two wrong words are lost, or lead to another codeword, by one number in one place: that is told with its fix.
func TestFixOfTwoOtherWords(t *testing.T) {
	checkFix(t, api.P1, []uint64{4, 1, 3, 6, 6, 6, 11, 11, 11}, []uint64{4, api.P1 - 1, 3, 6, 6, 6, 11, 11, 11}, []api.Fix{{Addr: 1, Bad: 1, Good: api.P1 - 1}}, api.OK)
	for _, p := range primes() {
		right := wantPut(p, []uint64{3, 1, 2, 9, 4})
		lost, found := 0, 0
		for i := range 5 {
			for j := range i {
				for _, a := range []uint64{0, 1, 5, 7, p - 1, p, greatest} {
					for _, b := range []uint64{0, 2, 3, 6, 8, p - 2, p + 1, greatest} {
						bad := with(with(right, i, a), j, b)
						checkFixBySaying(t, p, bad)
						if _, _, e := wantFix(p, bad); e != api.OK {
							lost++
						} else {
							found++
						}
					}
				}
			}
		}
		if lost == 0 || found == 0 {
			t.Errorf("by %d %d are lost, and %d are not", p, lost, found)
		}
	}
}

// All small words, by all small sums: what is told is what the document's words say, which tries each place.
func TestFixBySaying(t *testing.T) {
	for _, p := range primes() {
		small := []uint64{0, 1, 2, p - 1, p}
		for _, a := range small {
			for _, b := range small {
				for _, s := range small {
					for _, u := range append(small, 3, 4, p-2) {
						checkFixBySaying(t, p, laid([]uint64{a}, [2]uint64{s, u}))
						checkFixBySaying(t, p, laid([]uint64{a, b}, [2]uint64{s, u}))
						checkFixBySaying(t, p, laid([]uint64{a, b, 1}, [2]uint64{s, u}))
					}
				}
			}
		}
	}
}

// Whatever words, with whatever is struck, so that all of it comes up.
func TestFixOfWhatever(t *testing.T) {
	c := chance(8)
	for _, p := range primes() {
		many := map[api.Errno]int{}
		for range 2000 {
			bad := wantPut(p, c.numbers(p, 1+c.next(9)))
			for range c.next(4) {
				at := c.next(len(bad))
				switch c.next(3) {
				case 0:
					bad[at] = c.any(p)
				case 1:
					bad[at] ^= 1 << c.next(64)
				case 2:
					bad[at] = bad[c.next(len(bad))]
				}
			}
			checkFixBySaying(t, p, bad)
			_, _, e := wantFix(p, bad)
			many[e]++
		}
		if many[api.OK] < 200 || many[api.ErrLost] < 200 {
			t.Errorf("by %d there are too few of a kind: %v", p, many)
		}
	}
}

// Sums that call for a place behind the last word, or for none at all, can not be met.
func TestFixOfSumsThatNoWordCanMend(t *testing.T) {
	for _, p := range primes() {
		for _, many := range []int{1, 2, 3, 100, most} {
			l := rising(many)
			sums := wantSums(p, l)
			checkFixError(t, p, laid(l, [2]uint64{sums[0], (sums[1] + 1) % p}), api.ErrLost)
			checkFixError(t, p, laid(l, [2]uint64{(sums[0] + 1) % p, sums[1]}), api.ErrLost)
			checkFixError(t, p, laid(l, [2]uint64{(sums[0] + 1) % p, (sums[1] + uint64(many) + 1) % p}), api.ErrLost)
			last := with(l, many-1, l[many-1]+1)
			checkFixed(t, p, laid(l, [2]uint64{(sums[0] + 1) % p, (sums[1] + uint64(many)) % p}), wantPut(p, last))
			first := with(l, 0, l[0]+1)
			checkFixed(t, p, laid(l, [2]uint64{(sums[0] + 1) % p, (sums[1] + 1) % p}), wantPut(p, first))
		}
	}
}

// The number that comes into its place may be any number of p, the least and the greatest too.
func TestFixToEachNumber(t *testing.T) {
	for _, p := range primes() {
		for _, w := range kinds(p) {
			for at := range 4 {
				right := wantPut(p, with([]uint64{3, 1, 2, 9}, at, w))
				for _, bad := range []uint64{0, 1, p - 1, p, w ^ 1, w + p, greatest} {
					checkFixed(t, p, with(right, at, bad), right)
				}
			}
		}
	}
}

// One word, or cell, of what is put may be whatever it may.
func TestOneOfWhatIsPut(t *testing.T) {
	c := chance(9)
	for _, p := range primes() {
		for range 400 {
			right, e := Put(p, c.numbers(p, 1+c.next(64)))
			if e != api.OK {
				t.Fatal(e)
			}
			at := c.next(len(right))
			bad := with(right, at, c.word())
			checkLook(t, p, bad, bad[at] == right[at], api.OK)
			checkFixed(t, p, bad, right)
		}
	}
}

// What Fix tells needs no fix.
func TestFixOfWhatIsFixed(t *testing.T) {
	c := chance(10)
	for _, p := range primes() {
		for range 400 {
			bad := wantPut(p, c.numbers(p, 1+c.next(9)))
			for range 2 {
				bad[c.next(len(bad))] = c.number(p)
			}
			right, _, e := Fix(p, bad)
			if e != api.OK {
				continue
			}
			checkLook(t, p, right, true, api.OK)
			checkFix(t, p, right, right, nil, api.OK)
		}
	}
}

// scribble writes into all that a list has room for.
func scribble(l []uint64) {
	l = l[:cap(l)]
	for i := range l {
		l[i] = ^l[i]
	}
}

func scribbleFixes(l []api.Fix) {
	l = l[:cap(l)]
	for i := range l {
		l[i] = api.Fix{Addr: -1, Bad: 77, Good: 78}
	}
}

// inside is c in a longer list, which has room behind it.
func inside(c []uint64) ([]uint64, []uint64) {
	all := slices.Concat([]uint64{41, 42}, c, []uint64{43, 44, 45, 46, 47, 48, 49, 50, 51, 52})
	return all, all[2 : 2+len(c)]
}

// What is handed in stays, as does what is around it, also if what is told is written into.
func TestWhatIsHandedInStays(t *testing.T) {
	for _, p := range primes() {
		right := wantPut(p, []uint64{3, 1, 2})
		for _, c := range [][]uint64{right, with(right, 1, 9), with(right, 4, 9), with(right, 0, greatest), with(with(right, 0, 8), 1, 8), {1, 2, 3, 4, 5, 6, 7}, {5}} {
			all, part := inside(c)
			before := slices.Clone(all)
			Sums(p, part)
			put, _ := Put(p, part)
			scribble(put)
			Look(p, part)
			told, fixes, _ := Fix(p, part)
			scribble(told)
			scribbleFixes(fixes)
			if !slices.Equal(all, before) {
				t.Errorf("by %d %v was made %v", p, before, all)
			}
		}
	}
}

// What was told stays, whatever is written into what was handed in, or asked later.
func TestWhatWasToldStays(t *testing.T) {
	for _, p := range primes() {
		l := []uint64{3, 1, 2}
		put, _ := Put(p, l)
		want := wantPut(p, []uint64{3, 1, 2})
		bad := with(want, 1, 9)
		told, fixes, _ := Fix(p, bad)
		good := slices.Clone(want)
		same, none, _ := Fix(p, good)
		scribble(l)
		scribble(bad)
		scribble(good)
		later, _ := Put(p, []uint64{8, 8, 8})
		scribble(later)
		later, more, _ := Fix(p, with(wantPut(p, []uint64{8, 8, 8}), 0, 9))
		scribble(later)
		scribbleFixes(more)
		if !slices.Equal(put, want) || !slices.Equal(told, want) || !slices.Equal(same, want) || len(none) != 0 {
			t.Errorf("by %d got %v, %v, %v, %v", p, put, told, same, none)
		}
		if !slices.Equal(fixes, []api.Fix{{Addr: 1, Bad: 9, Good: 1}}) {
			t.Errorf("by %d got %v", p, fixes)
		}
	}
}

// Asked again, the same is told, also if what was told was written into.
func TestAskedAgain(t *testing.T) {
	for _, p := range primes() {
		l := []uint64{3, 1, 2}
		right := wantPut(p, l)
		bad := with(with(right, 2, greatest), 7, 0)
		for range 3 {
			checkSums(t, p, l, [2]uint64{6, 11}, api.OK)
			put, _ := Put(p, l)
			scribble(put)
			checkPut(t, p, l, right, api.OK)
			told, fixes, _ := Fix(p, bad)
			scribble(told)
			scribbleFixes(fixes)
			checkFixed(t, p, bad, right)
			told, _, _ = Fix(p, right)
			scribble(told)
			checkFix(t, p, right, right, nil, api.OK)
			checkLook(t, p, right, true, api.OK)
			checkLook(t, p, bad, false, api.OK)
			checkFixError(t, p, with(with(right, 0, p), 1, p), api.ErrLost)
		}
	}
}
