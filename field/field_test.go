package field

import (
	"math"
	"math/big"
	"slices"
	"testing"

	"bracken/api"
)

func primes() []uint64 { return []uint64{api.P0, api.P1, api.P2} }

// strangers are no primes of the document: 0, neighbours of its primes, products, and other primes.
func strangers() []uint64 {
	l := []uint64{0, 1, 2, 3, 4, 6, 7, 9, 65537, 1 << 31, 1<<31 - 1, 1 << 32, 1<<32 - 1, 1 << 63, math.MaxUint64,
		api.P1 * api.P2, 2 * api.P1, 2 * api.P2, api.P0 % (1 << 32), 469762049}
	for _, p := range primes() {
		l = append(l, p-1, p+1)
	}
	return l
}

// edges are numbers where a sum, a difference, or a product by p goes over.
func edges(p uint64) []uint64 {
	l := []uint64{0, 1, 2, 3, 5, 1 << 16, 1<<31 - 1, 1 << 31, 1<<32 - 2, 1<<32 - 1, 1 << 32, 1<<32 + 1,
		1 << 48, 1<<63 - 1, 1 << 63, 1<<63 + 1, math.MaxUint64 - 1, math.MaxUint64,
		p/2 - 1, p / 2, p/2 + 1, p - 2, p - 1, p, p + 1, 0x9e3779b97f4a7c15}
	for _, q := range primes() {
		l = append(l, q-1, q, q+1)
	}
	if p < 1<<32 {
		l = append(l, 2*p-1, 2*p, 2*p+1, p*p-1, p*p, p*p+1, math.MaxUint64/p*p)
	}
	slices.Sort(l)
	return slices.Compact(l)
}

func whole(a uint64) *big.Int { return new(big.Int).SetUint64(a) }

// left is what is left over of a whole number by p, from 0 to p less 1, also of one below 0.
func left(p uint64, a *big.Int) uint64 { return new(big.Int).Mod(a, whole(p)).Uint64() }

// P1.1
func TestPrimesAreWhatTheDocumentSays(t *testing.T) {
	want := []uint64{18446744069414584321, 998244353, 2013265921}
	if !slices.Equal(primes(), want) {
		t.Fatalf("got %d, want %d", primes(), want)
	}
	for _, p := range want {
		if !whole(p).ProbablyPrime(20) {
			t.Errorf("%d is no prime", p)
		}
	}
}

// P1.1
func TestKnown(t *testing.T) {
	for _, p := range []uint64{18446744069414584321, 998244353, 2013265921} {
		if !Known(p) {
			t.Errorf("Known(%d) is false", p)
		}
	}
	for _, p := range strangers() {
		if Known(p) {
			t.Errorf("Known(%d) is true", p)
		}
	}
}

// P1.1
func TestInOfOneNumber(t *testing.T) {
	for _, p := range primes() {
		for _, a := range edges(p) {
			if got := In(p, a); got != (a < p) {
				t.Errorf("In(%d, %d) is %v", p, a, got)
			}
		}
	}
}

// P1.1
func TestInOfSeveral(t *testing.T) {
	for _, p := range primes() {
		if !In(p) || !In(p, []uint64{}...) {
			t.Errorf("In(%d) of none is false", p)
		}
		if !In(p, 0, 1, p-1, p/2, 0) {
			t.Errorf("In(%d) of its own numbers is false", p)
		}
		for place := range 5 {
			for _, bad := range []uint64{p, p + 1, math.MaxUint64} {
				l := []uint64{0, 1, p - 1, p / 2, 7}
				l[place] = bad
				if In(p, l...) {
					t.Errorf("In(%d, %d) is true", p, l)
				}
			}
		}
	}
}

// P1.1
func TestInOfALongList(t *testing.T) {
	l := make([]uint64, api.MaxList+1)
	if !In(api.P1, l...) {
		t.Error("all are numbers of P1")
	}
	l[len(l)-1] = api.P1
	if In(api.P1, l...) {
		t.Error("the last one is no number of P1")
	}
}

// P1.1, R2
func TestInLeavesItsListAlone(t *testing.T) {
	l := []uint64{4, math.MaxUint64, 0, api.P1}
	was := slices.Clone(l)
	In(api.P1, l...)
	In(api.P0, l...)
	if !slices.Equal(l, was) {
		t.Errorf("got %d, want %d", l, was)
	}
}

// P1.1, P1.2: the sentence ahead of all promises.
func TestOfNoPrimeAllIsZeroOrFalse(t *testing.T) {
	numbers := []uint64{0, 1, 2, 5, 1 << 32, api.P0 - 1, api.P0, math.MaxUint64}
	for _, p := range strangers() {
		if In(p) || In(p, 0) || In(p, 0, 1) {
			t.Errorf("In of %d is true", p)
		}
		for _, a := range numbers {
			if Reduce(p, a) != 0 || Neg(p, a) != 0 {
				t.Errorf("of %d and %d: Reduce %d, Neg %d", p, a, Reduce(p, a), Neg(p, a))
			}
			for _, b := range numbers {
				if Add(p, a, b) != 0 || Sub(p, a, b) != 0 || Mul(p, a, b) != 0 {
					t.Errorf("of %d, %d, %d: Add %d, Sub %d, Mul %d", p, a, b, Add(p, a, b), Sub(p, a, b), Mul(p, a, b))
				}
			}
		}
	}
}

// P1.2
func TestNumbersWrittenOut(t *testing.T) {
	for _, x := range []struct {
		name      string
		got, want uint64
	}{
		{"Reduce P0 0", Reduce(api.P0, 0), 0},
		{"Reduce P0 p-1", Reduce(api.P0, api.P0-1), 18446744069414584320},
		{"Reduce P0 p", Reduce(api.P0, api.P0), 0},
		{"Reduce P0 2^64-1", Reduce(api.P0, math.MaxUint64), 4294967294},
		{"Reduce P1 p-1", Reduce(api.P1, 998244352), 998244352},
		{"Reduce P1 p", Reduce(api.P1, 998244353), 0},
		{"Reduce P1 2^64-1", Reduce(api.P1, math.MaxUint64), 932051909},
		{"Reduce P2 p+1", Reduce(api.P2, 2013265922), 1},
		{"Reduce P2 2^64-1", Reduce(api.P2, math.MaxUint64), 1172168162},
		{"Add P1, the document's example", Add(api.P1, 998244352, 2), 1},
		{"Add P0 beyond 64 bits", Add(api.P0, api.P0-1, api.P0-1), 18446744069414584319},
		{"Add P0 to the prime", Add(api.P0, api.P0-1, 1), 0},
		{"Add P0 2^64-1 twice", Add(api.P0, math.MaxUint64, math.MaxUint64), 8589934588},
		{"Add P2 below it", Add(api.P2, 5, 7), 12},
		{"Sub P0 below 0", Sub(api.P0, 0, 1), 18446744069414584320},
		{"Sub P1 the same", Sub(api.P1, 7, 7), 0},
		{"Sub P2 below 0", Sub(api.P2, 5, 7), 2013265919},
		{"Sub P1 of one beyond", Sub(api.P1, 998244357, 3), 1},
		{"Mul P0 p-1 twice", Mul(api.P0, api.P0-1, api.P0-1), 1},
		{"Mul P0 2^32 twice", Mul(api.P0, 1<<32, 1<<32), 4294967295},
		{"Mul P0 2^48 twice", Mul(api.P0, 1<<48, 1<<48), 18446744069414584320},
		{"Mul P1 p-1 and 2", Mul(api.P1, 998244352, 2), 998244351},
		{"Mul P1 2^64-1 twice", Mul(api.P1, math.MaxUint64, math.MaxUint64), Mul(api.P1, 932051909, 932051909)},
		{"Neg P0 0", Neg(api.P0, 0), 0},
		{"Neg P0 p", Neg(api.P0, api.P0), 0},
		{"Neg P0 1", Neg(api.P0, 1), 18446744069414584320},
		{"Neg P1 p-1", Neg(api.P1, 998244352), 1},
		{"Neg P2 5", Neg(api.P2, 5), 2013265916},
	} {
		if x.got != x.want {
			t.Errorf("%s: got %d, want %d", x.name, x.got, x.want)
		}
	}
}

// P1.2: all calls against whole numbers of any length.
func TestAgainstWholeNumbers(t *testing.T) {
	for _, p := range primes() {
		for _, a := range edges(p) {
			x := new(big.Int).Mod(whole(a), whole(p))
			if got := Reduce(p, a); got != x.Uint64() {
				t.Errorf("Reduce(%d, %d) is %d, want %d", p, a, got, x)
			}
			if got, want := Neg(p, a), left(p, new(big.Int).Neg(x)); got != want {
				t.Errorf("Neg(%d, %d) is %d, want %d", p, a, got, want)
			}
			for _, b := range edges(p) {
				againstWhole(t, p, a, b)
			}
		}
	}
}

func againstWhole(t *testing.T, p, a, b uint64) {
	t.Helper()
	x, y := new(big.Int).Mod(whole(a), whole(p)), new(big.Int).Mod(whole(b), whole(p))
	if got, want := Add(p, a, b), left(p, new(big.Int).Add(x, y)); got != want {
		t.Errorf("Add(%d, %d, %d) is %d, want %d", p, a, b, got, want)
	}
	if got, want := Sub(p, a, b), left(p, new(big.Int).Sub(x, y)); got != want {
		t.Errorf("Sub(%d, %d, %d) is %d, want %d", p, a, b, got, want)
	}
	if got, want := Mul(p, a, b), left(p, new(big.Int).Mul(x, y)); got != want {
		t.Errorf("Mul(%d, %d, %d) is %d, want %d", p, a, b, got, want)
	}
}

// P1.2: many ordinary numbers, told by a fixed rule, so that each run has the same.
func TestManyAgainstWholeNumbers(t *testing.T) {
	a := uint64(1)
	for range 20000 {
		b := a*6364136223846793005 + 1442695040888963407
		for _, p := range primes() {
			againstWhole(t, p, a, b)
		}
		a = b ^ b>>29
	}
}

// P1.3: what a ring asks of two numbers, and that no product is 0 by itself.
func TestRingOfTwo(t *testing.T) {
	for _, p := range primes() {
		for _, a := range edges(p) {
			r := Reduce(p, a)
			if Add(p, a, 0) != r || Mul(p, a, 1) != r || Mul(p, a, 0) != 0 || Add(p, a, Neg(p, a)) != 0 {
				t.Errorf("of %d: 0, 1, or Neg of %d", p, a)
			}
			for _, b := range edges(p) {
				if Add(p, a, b) != Add(p, b, a) || Mul(p, a, b) != Mul(p, b, a) {
					t.Errorf("of %d: %d and %d hang on their order", p, a, b)
				}
				if Sub(p, a, b) != Add(p, a, Neg(p, b)) {
					t.Errorf("of %d: %d less %d is not the sum with Neg", p, a, b)
				}
				none := a%p == 0 || b%p == 0
				if (Mul(p, a, b) == 0) != none {
					t.Errorf("of %d: the product of %d and %d is %d", p, a, b, Mul(p, a, b))
				}
				if !In(p, Add(p, a, b), Sub(p, a, b), Mul(p, a, b), Neg(p, a), r) {
					t.Errorf("of %d, %d, %d: an answer is no number of it", p, a, b)
				}
			}
		}
	}
}

// P1.3: what a ring asks of three numbers.
func TestRingOfThree(t *testing.T) {
	for _, p := range primes() {
		for _, a := range edges(p) {
			for _, b := range edges(p) {
				for _, c := range edges(p) {
					ringOfThree(t, p, a, b, c)
				}
			}
		}
	}
}

func ringOfThree(t *testing.T, p, a, b, c uint64) {
	t.Helper()
	if Add(p, Add(p, a, b), c) != Add(p, a, Add(p, b, c)) {
		t.Errorf("of %d: the sum of %d, %d, %d hangs on brackets", p, a, b, c)
	}
	if Mul(p, Mul(p, a, b), c) != Mul(p, a, Mul(p, b, c)) {
		t.Errorf("of %d: the product of %d, %d, %d hangs on brackets", p, a, b, c)
	}
	if Mul(p, a, Add(p, b, c)) != Add(p, Mul(p, a, b), Mul(p, a, c)) {
		t.Errorf("of %d: %d does not go through the sum of %d and %d", p, a, b, c)
	}
}
