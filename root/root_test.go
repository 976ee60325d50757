package root

import (
	"math"
	"math/big"
	"testing"

	"bracken/api"
	"bracken/field"
	"bracken/power"
)

func primes() []uint64 { return []uint64{api.P0, api.P1, api.P2} }

// strangers are no primes of the document: 0, neighbours of its primes, products, and other primes.
func strangers() []uint64 {
	l := []uint64{0, 1, 2, 3, 4, 5, 7, 31, 97, 65537, 1<<31 - 1, 1 << 32, 1 << 63, math.MaxUint64, api.P1 * api.P2, 2 * api.P1, 469762049}
	for _, p := range primes() {
		l = append(l, p-1, p+1)
	}
	return l
}

// wrongOrders may not be asked for, of whichever prime: some of them divide p less 1 all the same.
func wrongOrders() []int {
	return []int{0, -1, -2, -4, -8192, math.MinInt, math.MinInt + 1, 8193, 8194, 16384, 65536, 1 << 32, 1<<32 + 2, math.MaxInt - 1, math.MaxInt}
}

// generator is what the document writes out.
func generator(p uint64) uint64 {
	switch p {
	case api.P0:
		return 7
	case api.P1:
		return 3
	}
	return 31
}

// orders are the n up to 8192 that divide p less 1.
func orders(p uint64) []int {
	var l []int
	for n := 1; n <= 8192; n++ {
		if (p-1)%uint64(n) == 0 {
			l = append(l, n)
		}
	}
	return l
}

func whole(a uint64) *big.Int { return new(big.Int).SetUint64(a) }

// wholeRoot is the root, worked out with whole numbers of any length.
func wholeRoot(p uint64, n int) uint64 {
	return new(big.Int).Exp(whole(generator(p)), whole((p-1)/uint64(n)), whole(p)).Uint64()
}

// wholeBack is what undoes the root, worked out with whole numbers of any length.
func wholeBack(p uint64, n int) uint64 {
	return new(big.Int).ModInverse(whole(wholeRoot(p, n)), whole(p)).Uint64()
}

// common is the greatest number that divides both.
func common(a, b int) int {
	for b != 0 {
		a, b = b, a%b
	}
	return a
}

// must is the root of an order that there is.
func must(t *testing.T, p uint64, n int) uint64 {
	t.Helper()
	w, e := Root(p, n)
	if e != api.OK {
		t.Fatalf("Root(%d, %d): error %d", p, n, e)
	}
	return w
}

func checkOrder(t *testing.T, p, a uint64, n int, want bool) {
	t.Helper()
	if got, e := Order(p, a, n); got != want || e != api.OK {
		t.Errorf("Order(%d, %d, %d) is %v, %d, want %v", p, a, n, got, e, want)
	}
}

// P3.1
func TestGen(t *testing.T) {
	for _, x := range []struct{ p, want uint64 }{{18446744069414584321, 7}, {998244353, 3}, {2013265921, 31}} {
		if got := Gen(x.p); got != x.want {
			t.Errorf("Gen(%d) is %d, want %d", x.p, got, x.want)
		}
	}
}

// P3.1
func TestGenOfNoPrime(t *testing.T) {
	for _, p := range strangers() {
		if got := Gen(p); got != 0 {
			t.Errorf("Gen(%d) is %d", p, got)
		}
	}
}

// P3.1: no power of a generator is 1 ahead of p less 1, or not all roots had their order.
func TestGenComesAroundLast(t *testing.T) {
	for p, parts := range map[uint64][]uint64{api.P0: {2, 3, 5, 17, 257, 65537}, api.P1: {2, 7, 17}, api.P2: {2, 3, 5}} {
		rest := p - 1
		for _, q := range parts {
			for rest%q == 0 {
				rest /= q
			}
			if power.Pow(p, Gen(p), (p-1)/q) == 1 {
				t.Errorf("by %d the power (p less 1) by %d of %d is 1", p, q, Gen(p))
			}
		}
		if rest != 1 || power.Pow(p, Gen(p), p-1) != 1 {
			t.Errorf("by %d: %d is left over, the power p less 1 is %d", p, rest, power.Pow(p, Gen(p), p-1))
		}
	}
}

// P3.2: roots, and what undoes them.
func TestRootAndBackWrittenOut(t *testing.T) {
	for _, x := range []struct {
		p          uint64
		n          int
		root, back uint64
	}{
		{api.P0, 1, 1, 1},
		{api.P0, 2, 18446744069414584320, 18446744069414584320},
		{api.P0, 3, 18446744065119617025, 4294967295},
		{api.P0, 4, 281474976710656, 18446462594437873665},
		{api.P0, 5, 1373043270956696022, 1041288259238279555},
		{api.P0, 6, 18446744065119617026, 4294967296},
		{api.P0, 17, 16301593560560007290, 16514026533473305076},
		{api.P0, 257, 995085315851368103, 2474323829934184279},
		{api.P0, 8160, 3473059750885292941, 11933832014628175017},
		{api.P0, 8192, 1532612707718625687, 3968367389790187850},
		{api.P1, 1, 1, 1},
		{api.P1, 2, 998244352, 998244352},
		{api.P1, 4, 911660635, 86583718},
		{api.P1, 7, 779057549, 690489812},
		{api.P1, 17, 337827833, 634461433},
		{api.P1, 4096, 63912897, 129292727},
		{api.P1, 8192, 350007156, 358024708},
		{api.P2, 1, 1, 1},
		{api.P2, 2, 2013265920, 2013265920},
		{api.P2, 3, 1314723123, 698542797},
		{api.P2, 5, 645581151, 815036133},
		{api.P2, 15, 1995471372, 621136167},
		{api.P2, 4096, 1282623253, 1255670133},
		{api.P2, 8192, 298008106, 1976924129},
	} {
		if got, e := Root(x.p, x.n); got != x.root || e != api.OK {
			t.Errorf("Root(%d, %d) is %d, %d, want %d", x.p, x.n, got, e, x.root)
		}
		if got, e := Back(x.p, x.n); got != x.back || e != api.OK {
			t.Errorf("Back(%d, %d) is %d, %d, want %d", x.p, x.n, got, e, x.back)
		}
	}
}

// P3.2: each n that may be asked for, whether it divides p less 1 or not.
func TestRootOfEachOrder(t *testing.T) {
	for _, p := range primes() {
		for n := 1; n <= 8192; n++ {
			got, e := Root(p, n)
			if (p-1)%uint64(n) != 0 {
				if got != 0 || e != api.ErrOrder {
					t.Errorf("Root(%d, %d) is %d, %d", p, n, got, e)
				}
				continue
			}
			if want := wholeRoot(p, n); got != want || e != api.OK {
				t.Errorf("Root(%d, %d) is %d, %d, want %d", p, n, got, e, want)
			}
		}
	}
}

// P3.2
func TestBackOfEachOrder(t *testing.T) {
	for _, p := range primes() {
		for n := 1; n <= 8192; n++ {
			got, e := Back(p, n)
			if (p-1)%uint64(n) != 0 {
				if got != 0 || e != api.ErrOrder {
					t.Errorf("Back(%d, %d) is %d, %d", p, n, got, e)
				}
				continue
			}
			if want := wholeBack(p, n); got != want || e != api.OK {
				t.Errorf("Back(%d, %d) is %d, %d, want %d", p, n, got, e, want)
			}
			w := must(t, p, n)
			if undone, _ := power.Inv(p, w); got != undone || field.Mul(p, w, got) != 1 || got != power.Pow(p, w, uint64(n-1)) {
				t.Errorf("Back(%d, %d) is %d, which does not undo %d", p, n, got, w)
			}
		}
	}
}

// P3.2: 8191 divides none of them, by P1 not even 3, and 0 is told with it.
func TestNoSuchRoot(t *testing.T) {
	for _, x := range []struct {
		p uint64
		n int
	}{{api.P0, 7}, {api.P0, 9}, {api.P0, 8191}, {api.P1, 3}, {api.P1, 5}, {api.P1, 6}, {api.P1, 49}, {api.P1, 8191}, {api.P2, 7}, {api.P2, 9}, {api.P2, 17}, {api.P2, 25}, {api.P2, 8191}} {
		if got, e := Root(x.p, x.n); got != 0 || e != api.ErrOrder {
			t.Errorf("Root(%d, %d) is %d, %d", x.p, x.n, got, e)
		}
		if got, e := Back(x.p, x.n); got != 0 || e != api.ErrOrder {
			t.Errorf("Back(%d, %d) is %d, %d", x.p, x.n, got, e)
		}
	}
}

// checkErrors asks all three calls, of numbers that would have an answer too.
func checkErrors(t *testing.T, p uint64, n int, want api.Errno) {
	t.Helper()
	if got, e := Root(p, n); got != 0 || e != want {
		t.Errorf("Root(%d, %d) is %d, %d, want error %d", p, n, got, e, want)
	}
	if got, e := Back(p, n); got != 0 || e != want {
		t.Errorf("Back(%d, %d) is %d, %d, want error %d", p, n, got, e, want)
	}
	for _, a := range []uint64{0, 1, 3, p - 1, p, p + 1, math.MaxUint64} {
		if got, e := Order(p, a, n); got || e != want {
			t.Errorf("Order(%d, %d, %d) is %v, %d, want error %d", p, a, n, got, e, want)
		}
	}
}

// P3.2: ahead of ErrOrder too, as many of these do not divide p less 1.
func TestWrongOrder(t *testing.T) {
	for _, p := range primes() {
		for _, n := range wrongOrders() {
			checkErrors(t, p, n, api.ErrArg)
		}
		for _, n := range []int{1, 2, 8192} {
			checkOrder(t, p, must(t, p, n), n, true)
		}
	}
}

// P3.2: that p is no prime is told ahead of a wrong n, and of an n that does not divide p less 1.
func TestNoPrime(t *testing.T) {
	for _, p := range strangers() {
		for _, n := range append(wrongOrders(), 1, 2, 3, 4, 5, 7, 8191, 8192) {
			checkErrors(t, p, n, api.ErrPrime)
		}
	}
}

// P3.2, P3.3: roots, and what undoes them, have their order, and none that is a part or a multiple of it, or beside it.
func TestOrderOfRoots(t *testing.T) {
	for _, p := range primes() {
		l := orders(p)
		for _, n := range l {
			w := must(t, p, n)
			back, e := Back(p, n)
			if e != api.OK {
				t.Fatalf("Back(%d, %d): error %d", p, n, e)
			}
			for _, a := range []uint64{w, back} {
				for _, m := range l {
					checkOrder(t, p, a, m, m == n)
				}
				for m := 2 * n; m <= 8192; m += n {
					checkOrder(t, p, a, m, false)
				}
			}
			if n > 1 {
				checkOrder(t, p, w, n-1, false)
			}
			if n < 8192 {
				checkOrder(t, p, w, n+1, false)
			}
		}
	}
}

// P3.2: each n that may be asked for, of one root.
func TestOrderAtEachNumber(t *testing.T) {
	for _, p := range primes() {
		for _, order := range []int{1, 2, 4, 16, 64} {
			w := must(t, p, order)
			for n := 1; n <= 8192; n++ {
				checkOrder(t, p, w, n, n == order)
			}
		}
	}
}

// P3.2: the power k of a root of order n has the order n by what is common to both, and no other.
func TestOrderOfPowers(t *testing.T) {
	for p, many := range map[uint64][]int{api.P0: {60, 64, 255}, api.P1: {56, 64, 119}, api.P2: {60, 64, 120}} {
		for _, n := range many {
			w := must(t, p, n)
			for k := range 2 * n {
				a := power.Pow(p, w, uint64(k))
				for m := 1; m <= 2*n; m++ {
					checkOrder(t, p, a, m, m == n/common(n, k))
				}
			}
		}
	}
}

// P3.2: no power of 0 but the power 0 is 1; numbers at p and above are taken by p.
func TestOrderOfZero(t *testing.T) {
	for _, p := range primes() {
		zeros := []uint64{0, p}
		if p < 1<<32 {
			zeros = append(zeros, 2*p, p*p)
		}
		for _, a := range zeros {
			for _, n := range []int{1, 2, 3, 4, 8191, 8192} {
				checkOrder(t, p, a, n, false)
			}
		}
	}
}

// P3.2
func TestOrderOfOneAndOfPLessOne(t *testing.T) {
	for _, p := range primes() {
		for _, n := range []int{1, 2, 3, 4, 5, 6, 8191, 8192} {
			checkOrder(t, p, 1, n, n == 1)
			checkOrder(t, p, p+1, n, n == 1)
			checkOrder(t, p, p-1, n, n == 2)
			if p < 1<<32 {
				checkOrder(t, p, p*p+1, n, n == 1)
				checkOrder(t, p, 2*p-1, n, n == 2)
			}
		}
	}
}

// P3.2: a number above p has the order of what is left over of it; by P0 only what is below 2^32 can be so asked for.
func TestOrderOfWhatIsAboveThePrime(t *testing.T) {
	for _, p := range []uint64{api.P1, api.P2} {
		for _, n := range orders(p) {
			w := must(t, p, n)
			for _, a := range []uint64{w + p, w + 2*p, w + p*p} {
				checkOrder(t, p, a, n, true)
				checkOrder(t, p, a, n%8192+1, false)
			}
		}
	}
	for _, x := range []struct {
		a uint64
		n int
	}{{2, 192}, {4, 96}, {8, 64}, {64, 32}, {4096, 16}, {4294967295, 3}, {4294967296, 6}, {65536, 12}} {
		checkOrder(t, api.P0, x.a, x.n, true)
		checkOrder(t, api.P0, x.a, 2*x.n, false)
		if x.a < 1<<32-1 {
			checkOrder(t, api.P0, api.P0+x.a, x.n, true)
			checkOrder(t, api.P0, api.P0+x.a, x.n+1, false)
		}
	}
}

// P3.2: what comes around far behind 8192 has none of these orders, nor has any number one that does not divide p less 1: that is no error.
func TestOrderOfWhatHasNone(t *testing.T) {
	for _, p := range primes() {
		for _, n := range []int{1, 2, 3, 4, 5, 7, 11, 17, 4096, 8191, 8192} {
			for _, a := range []uint64{generator(p), 10, 1<<32 + 5, math.MaxUint64} {
				checkOrder(t, p, a, n, false)
			}
		}
		for n := 1; n <= 8192; n++ {
			if (p-1)%uint64(n) != 0 && n%61 < 2 {
				checkOrder(t, p, must(t, p, 8192), n, false)
				checkOrder(t, p, 1, n, false)
			}
		}
	}
}

// P3.3: the power m of the root of n times m is the root of n.
func TestRootOfAProduct(t *testing.T) {
	for _, p := range primes() {
		for _, n := range orders(p) {
			w := must(t, p, n)
			for m := 1; n*m <= 8192; m++ {
				if (p-1)%uint64(n*m) != 0 {
					continue
				}
				if got := power.Pow(p, must(t, p, n*m), uint64(m)); got != w {
					t.Errorf("by %d the power %d of the root of %d is %d, want %d", p, m, n*m, got, w)
				}
			}
		}
	}
}

// sumOfPowers is the sum of the powers 0 to n less 1 of a.
func sumOfPowers(t *testing.T, p, a uint64, n int) uint64 {
	t.Helper()
	powers, e := power.Powers(p, a, n)
	if e != api.OK {
		t.Fatalf("Powers(%d, %d, %d): error %d", p, a, n, e)
	}
	sum := uint64(0)
	for _, b := range powers {
		sum = field.Add(p, sum, b)
	}
	return sum
}

// P3.3: all powers of a root together are 0, but of n 1, whose one power is 1; so it is of what undoes it.
func TestSumOfAllPowers(t *testing.T) {
	for _, p := range primes() {
		for _, n := range orders(p) {
			want := uint64(0)
			if n == 1 {
				want = 1
			}
			back, _ := Back(p, n)
			for _, a := range []uint64{must(t, p, n), back} {
				if got := sumOfPowers(t, p, a, n); got != want {
					t.Errorf("by %d all powers of %d, of order %d, together are %d", p, a, n, got)
				}
			}
		}
	}
}
