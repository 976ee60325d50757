package power

import (
	"math"
	"math/big"
	"slices"
	"testing"

	"bracken/api"
	"bracken/field"
)

func primes() []uint64 { return []uint64{api.P0, api.P1, api.P2} }

// strangers are no primes of the document: 0, neighbours of its primes, products, and other primes.
func strangers() []uint64 {
	l := []uint64{0, 1, 2, 3, 4, 7, 9, 65537, 1<<31 - 1, 1 << 32, 1 << 63, math.MaxUint64, api.P1 * api.P2, 2 * api.P1, 469762049}
	for _, p := range primes() {
		l = append(l, p-1, p+1)
	}
	return l
}

// zeros are numbers that are 0 by p.
func zeros(p uint64) []uint64 {
	l := []uint64{0, p}
	if p < 1<<32 {
		l = append(l, 2*p, p*p, math.MaxUint64/p*p)
	}
	return l
}

// edges are numbers that are not 0 by p, below it and above.
func edges(p uint64) []uint64 {
	l := []uint64{1, 2, 3, 5, 7, 10, 31, 1 << 16, 1<<31 - 1, 1<<32 - 1, 1 << 32, 1<<32 + 1, 1 << 63, math.MaxUint64 - 1, math.MaxUint64,
		p/2 - 1, p / 2, p/2 + 1, p - 2, p - 1, p + 1, p + 2, 0x9e3779b97f4a7c15}
	if p < 1<<32 {
		l = append(l, 2*p-1, 2*p+1, p*p-1, p*p+1)
	}
	return l
}

// exponents are powers to ask for: the edges, single bits, and what comes around at p less 1.
func exponents(p uint64) []uint64 {
	l := []uint64{0, 1, 2, 3, 4, 5, 6, 7, 8, 15, 16, 17, 1<<32 - 1, 1 << 32, 1<<32 + 1, 1<<63 - 1, 1 << 63, 1<<63 + 1,
		math.MaxUint64 - 1, math.MaxUint64, p - 3, p - 2, p - 1, p, p + 1, (p - 1) / 2, 0x9e3779b97f4a7c15}
	for bit := range 64 {
		l = append(l, 1<<bit)
	}
	return l
}

// ordinary are many numbers that are not 0 by any of the primes, told by a fixed rule, so that each run has the same.
func ordinary(many int) []uint64 {
	var l []uint64
	for a := uint64(1); len(l) < many; a = a*6364136223846793005 + 1442695040888963407 {
		if a%api.P0 != 0 && a%api.P1 != 0 && a%api.P2 != 0 {
			l = append(l, a)
		}
	}
	return l
}

func whole(a uint64) *big.Int { return new(big.Int).SetUint64(a) }

// wholePow is the power by p, worked out with whole numbers of any length.
func wholePow(p, a, n uint64) uint64 {
	return new(big.Int).Exp(whole(a), whole(n), whole(p)).Uint64()
}

// wholeInv is what undoes a by p, worked out with whole numbers of any length.
func wholeInv(p, a uint64) uint64 {
	return new(big.Int).ModInverse(new(big.Int).Mod(whole(a), whole(p)), whole(p)).Uint64()
}

// P2.1
func TestPowWrittenOut(t *testing.T) {
	for _, x := range []struct{ p, a, n, want uint64 }{
		{api.P0, 2, 64, 4294967295},
		{api.P0, 2, 96, 18446744069414584320},
		{api.P0, 2, 192, 1},
		{api.P0, 7, 0, 1},
		{api.P0, 7, 1, 7},
		{api.P0, 7, 3, 343},
		{api.P0, math.MaxUint64, 1, 4294967294},
		{api.P0, api.P0 - 1, math.MaxUint64, 18446744069414584320},
		{api.P1, 3, 5, 243},
		{api.P1, 2, 30, 75497471},
		{api.P1, 998244352, 2, 1},
		{api.P1, 998244352, math.MaxUint64, 998244352},
		{api.P1, 998244355, 10, 1024},
		{api.P2, 31, 2, 961},
		{api.P2, 2, 31, 134217727},
		{api.P2, 2013265920, math.MaxUint64, 2013265920},
		{api.P2, 1, math.MaxUint64, 1},
	} {
		if got := Pow(x.p, x.a, x.n); got != x.want {
			t.Errorf("Pow(%d, %d, %d) is %d, want %d", x.p, x.a, x.n, got, x.want)
		}
	}
}

// P2.1: what is 0 by p has the power 0 too, and that is 1.
func TestPowOfZero(t *testing.T) {
	for _, p := range primes() {
		for _, a := range zeros(p) {
			if got := Pow(p, a, 0); got != 1 {
				t.Errorf("Pow(%d, %d, 0) is %d", p, a, got)
			}
			for _, n := range []uint64{1, 2, 3, p - 1, p, 1 << 63, math.MaxUint64} {
				if got := Pow(p, a, n); got != 0 {
					t.Errorf("Pow(%d, %d, %d) is %d", p, a, n, got)
				}
			}
		}
	}
}

// P2.1
func TestPowAgainstWholeNumbers(t *testing.T) {
	for _, p := range primes() {
		for _, a := range append(edges(p), ordinary(20)...) {
			for _, n := range exponents(p) {
				if got, want := Pow(p, a, n), wholePow(p, a, n); got != want {
					t.Errorf("Pow(%d, %d, %d) is %d, want %d", p, a, n, got, want)
				}
			}
		}
	}
}

// P2.1: the product itself, one number after the other.
func TestPowIsTheProduct(t *testing.T) {
	for _, p := range primes() {
		for _, a := range append(edges(p), zeros(p)...) {
			product := uint64(1)
			for n := range uint64(70) {
				if got := Pow(p, a, n); got != product {
					t.Errorf("Pow(%d, %d, %d) is %d, want %d", p, a, n, got, product)
				}
				product = field.Mul(p, product, a)
			}
		}
	}
}

// P2.1
func TestPowOfNoPrime(t *testing.T) {
	for _, p := range strangers() {
		for _, a := range []uint64{0, 1, 2, p, math.MaxUint64} {
			for _, n := range []uint64{0, 1, 2, 64, math.MaxUint64} {
				if got := Pow(p, a, n); got != 0 {
					t.Errorf("Pow(%d, %d, %d) is %d", p, a, n, got)
				}
			}
		}
	}
}

// P2.2
func TestInvWrittenOut(t *testing.T) {
	for _, x := range []struct{ p, a, want uint64 }{
		{api.P0, 1, 1},
		{api.P0, 2, 9223372034707292161},
		{api.P0, api.P0 - 1, api.P0 - 1},
		{api.P0, api.P0 + 1, 1},
		{api.P1, 2, 499122177},
		{api.P1, 499122177, 2},
		{api.P1, 998244352, 998244352},
		{api.P1, 998244355, 499122177},
		{api.P2, 2, 1006632961},
		{api.P2, 2013265920, 2013265920},
	} {
		if got, e := Inv(x.p, x.a); got != x.want || e != api.OK {
			t.Errorf("Inv(%d, %d) is %d, %d, want %d", x.p, x.a, got, e, x.want)
		}
	}
}

// P2.2
func TestInvUndoesAProduct(t *testing.T) {
	for _, p := range primes() {
		for _, a := range append(edges(p), ordinary(500)...) {
			got, e := Inv(p, a)
			if e != api.OK || got != wholeInv(p, a) || field.Mul(p, a, got) != 1 || !field.In(p, got) {
				t.Errorf("Inv(%d, %d) is %d, %d, want %d", p, a, got, e, wholeInv(p, a))
			}
		}
	}
}

// P2.2
func TestInvOfZero(t *testing.T) {
	for _, p := range primes() {
		for _, a := range zeros(p) {
			if got, e := Inv(p, a); got != 0 || e != api.ErrNone {
				t.Errorf("Inv(%d, %d) is %d, %d", p, a, got, e)
			}
		}
	}
}

// P2.2: that p is no prime is told ahead of a number that is 0.
func TestInvOfNoPrime(t *testing.T) {
	for _, p := range strangers() {
		for _, a := range []uint64{0, 1, 2, p, math.MaxUint64} {
			if got, e := Inv(p, a); got != 0 || e != api.ErrPrime {
				t.Errorf("Inv(%d, %d) is %d, %d", p, a, got, e)
			}
		}
	}
}

// checkAll holds All against Inv of each number.
func checkAll(t *testing.T, p uint64, l []uint64) {
	t.Helper()
	got, e := All(p, l)
	if e != api.OK || len(got) != len(l) {
		t.Fatalf("All by %d of %d numbers: %d numbers, error %d", p, len(l), len(got), e)
	}
	for i, a := range l {
		if want, _ := Inv(p, a); got[i] != want || field.Mul(p, a, got[i]) != 1 {
			t.Fatalf("All by %d at %d, of %d: got %d, want %d", p, i, a, got[i], want)
		}
	}
}

// P2.2
func TestAllIsInvOfEach(t *testing.T) {
	for _, p := range primes() {
		for many := range 12 {
			checkAll(t, p, ordinary(many))
		}
		checkAll(t, p, edges(p))
		for _, a := range edges(p) {
			checkAll(t, p, []uint64{a})
			checkAll(t, p, []uint64{a, a})
			checkAll(t, p, []uint64{a, 2, a, 3})
		}
	}
	if got, e := All(api.P1, []uint64{1, 2, 499122177}); e != api.OK || !slices.Equal(got, []uint64{1, 499122177, 2}) {
		t.Errorf("got %d, %d", got, e)
	}
}

// P2.2
func TestAllOfNone(t *testing.T) {
	for _, p := range primes() {
		for _, l := range [][]uint64{nil, {}} {
			if got, e := All(p, l); len(got) != 0 || e != api.OK {
				t.Errorf("All of none by %d is %d, %d", p, got, e)
			}
		}
	}
}

// P2.2
func TestAllOfTheLongestList(t *testing.T) {
	l := ordinary(65536)
	for _, p := range primes() {
		checkAll(t, p, l)
	}
}

// P2.2: one more is too many, with a 0 in it too.
func TestAllOfTooMany(t *testing.T) {
	for _, p := range primes() {
		for _, l := range [][]uint64{ordinary(65537), make([]uint64, 65537), ordinary(70000)} {
			if got, e := All(p, l); len(got) != 0 || e != api.ErrArg {
				t.Errorf("All by %d of %d numbers: %d numbers, error %d", p, len(l), len(got), e)
			}
		}
	}
}

// P2.2: a 0 at each place of a list, and in the longest one.
func TestAllWithAZero(t *testing.T) {
	for _, p := range primes() {
		for _, zero := range zeros(p) {
			for many := 1; many < 7; many++ {
				for place := range many {
					l := ordinary(many)
					l[place] = zero
					if got, e := All(p, l); len(got) != 0 || e != api.ErrNone {
						t.Errorf("All(%d, %d) is %d, %d", p, l, got, e)
					}
				}
			}
		}
		for _, place := range []int{0, 1, 65535} {
			l := ordinary(65536)
			l[place] = p
			if got, e := All(p, l); len(got) != 0 || e != api.ErrNone {
				t.Errorf("All by %d with a 0 at %d: %d numbers, error %d", p, place, len(got), e)
			}
		}
	}
}

// P2.2: that p is no prime is told ahead of all else.
func TestAllOfNoPrime(t *testing.T) {
	for _, p := range strangers() {
		for _, l := range [][]uint64{nil, {1}, {0}, {3, 0, p}, make([]uint64, 65537)} {
			if got, e := All(p, l); len(got) != 0 || e != api.ErrPrime {
				t.Errorf("All by %d of %d numbers: %d numbers, error %d", p, len(l), len(got), e)
			}
		}
	}
}

// P2.2, R2: with and without an error.
func TestAllLeavesItsListAlone(t *testing.T) {
	for _, p := range append(primes(), 7) {
		for _, l := range [][]uint64{{5, math.MaxUint64, 3, p + 1}, {5, p, 3}, ordinary(1000), ordinary(65537)} {
			was := slices.Clone(l)
			All(p, l)
			if !slices.Equal(l, was) {
				t.Errorf("by %d a list of %d numbers was changed", p, len(l))
			}
		}
	}
}

// P2.2, R2: what is told shares nothing with what is handed in, nor with what was told ahead, nor behind its end.
func TestAllTellsWhatIsNew(t *testing.T) {
	for _, p := range primes() {
		store := []uint64{1, 2, 3, 4, 5, 6}
		l := store[1:4]
		first, _ := All(p, l)
		want := slices.Clone(first)
		second, _ := All(p, l)
		for i := range second {
			second[i] = 77
		}
		_ = append(second, 78)
		if !slices.Equal(store, []uint64{1, 2, 3, 4, 5, 6}) || !slices.Equal(first, want) {
			t.Errorf("by %d: what is told is not new", p)
		}
		for i := range store {
			store[i] = 79
		}
		if !slices.Equal(first, want) {
			t.Errorf("by %d: what is told hangs on what was handed in", p)
		}
	}
}

// P2.3
func TestPowersWrittenOut(t *testing.T) {
	for _, x := range []struct {
		p, a uint64
		many int
		want []uint64
	}{
		{api.P1, 10, 4, []uint64{1, 10, 100, 1000}},
		{api.P1, 998244352, 4, []uint64{1, 998244352, 1, 998244352}},
		{api.P1, 998244355, 3, []uint64{1, 2, 4}},
		{api.P0, 4294967296, 5, []uint64{1, 4294967296, 4294967295, 18446744069414584320, 18446744065119617025}},
		{api.P0, math.MaxUint64, 2, []uint64{1, 4294967294}},
		{api.P2, 0, 4, []uint64{1, 0, 0, 0}},
		{api.P2, api.P2, 3, []uint64{1, 0, 0}},
		{api.P2, 1, 3, []uint64{1, 1, 1}},
		{api.P2, 31, 1, []uint64{1}},
		{api.P2, 0, 1, []uint64{1}},
		{api.P2, 31, 0, nil},
	} {
		if got, e := Powers(x.p, x.a, x.many); e != api.OK || !slices.Equal(got, x.want) {
			t.Errorf("Powers(%d, %d, %d) is %d, %d, want %d", x.p, x.a, x.many, got, e, x.want)
		}
	}
}

// P2.3
func TestPowersArePowOfEach(t *testing.T) {
	for _, p := range primes() {
		for _, a := range append(edges(p), zeros(p)...) {
			for _, many := range []int{0, 1, 2, 3, 65, 300} {
				checkPowers(t, p, a, many)
			}
		}
		checkPowers(t, p, 3, 65535)
		checkPowers(t, p, math.MaxUint64, 65536)
	}
}

func checkPowers(t *testing.T, p, a uint64, many int) {
	t.Helper()
	got, e := Powers(p, a, many)
	if e != api.OK || len(got) != many {
		t.Fatalf("Powers(%d, %d, %d): %d numbers, error %d", p, a, many, len(got), e)
	}
	for n, power := range got {
		if want := Pow(p, a, uint64(n)); power != want {
			t.Fatalf("Powers(%d, %d, %d) at %d: got %d, want %d", p, a, many, n, power, want)
		}
	}
}

// P2.3
func TestPowersOfAWrongMany(t *testing.T) {
	for _, p := range primes() {
		for _, many := range []int{-1, -2, -65536, math.MinInt, 65537, 1 << 20, math.MaxInt} {
			for _, a := range []uint64{0, 1, 10, p} {
				if got, e := Powers(p, a, many); len(got) != 0 || e != api.ErrArg {
					t.Errorf("Powers(%d, %d, %d): %d numbers, error %d", p, a, many, len(got), e)
				}
			}
		}
	}
}

// P2.3: that p is no prime is told ahead of a wrong many.
func TestPowersOfNoPrime(t *testing.T) {
	for _, p := range strangers() {
		for _, many := range []int{-1, 0, 1, 5, 65536, 65537, math.MinInt, math.MaxInt} {
			if got, e := Powers(p, 10, many); len(got) != 0 || e != api.ErrPrime {
				t.Errorf("Powers(%d, 10, %d): %d numbers, error %d", p, many, len(got), e)
			}
		}
	}
}

// P2.3, R2
func TestPowersTellsWhatIsNew(t *testing.T) {
	for _, p := range primes() {
		first, _ := Powers(p, 3, 8)
		want := slices.Clone(first)
		second, _ := Powers(p, 3, 8)
		for i := range second {
			second[i] = 77
		}
		if third, _ := Powers(p, 3, 8); !slices.Equal(first, want) || !slices.Equal(third, want) {
			t.Errorf("by %d: what is told is not new", p)
		}
	}
}

// P2.4: the power of a sum of numbers is the product of the powers.
func TestPowerOfASum(t *testing.T) {
	sums := []uint64{0, 1, 2, 3, 64, 1<<32 - 1, 1 << 32, 1 << 62, 1<<63 - 1}
	for _, p := range primes() {
		for _, a := range append(edges(p), zeros(p)...) {
			for _, n := range sums {
				for _, m := range sums {
					if got, want := field.Mul(p, Pow(p, a, n), Pow(p, a, m)), Pow(p, a, n+m); got != want {
						t.Errorf("by %d: powers %d and %d of %d are %d, want %d", p, n, m, a, got, want)
					}
				}
			}
			n := uint64(math.MaxUint64 - 5)
			if field.Mul(p, Pow(p, a, n), Pow(p, a, 5)) != Pow(p, a, math.MaxUint64) {
				t.Errorf("by %d: the power 2^64 - 1 of %d", p, a)
			}
		}
	}
}

// P2.4: what is undone twice is what it was.
func TestUndoneTwice(t *testing.T) {
	for _, p := range primes() {
		l := append(edges(p), ordinary(300)...)
		once, e := All(p, l)
		twice, f := All(p, once)
		if e != api.OK || f != api.OK {
			t.Fatalf("by %d: errors %d, %d", p, e, f)
		}
		for i, a := range l {
			undone, _ := Inv(p, a)
			back, e := Inv(p, undone)
			if e != api.OK || back != field.Reduce(p, a) || twice[i] != back {
				t.Errorf("by %d: %d undone twice is %d, and %d among others", p, a, back, twice[i])
			}
		}
	}
}

// P2.4: of what is not 0 the power p less 1 is 1; of what is 0 it is not.
func TestPowerOfPLessOne(t *testing.T) {
	for _, p := range primes() {
		for _, a := range append(edges(p), ordinary(300)...) {
			if got := Pow(p, a, p-1); got != 1 {
				t.Errorf("Pow(%d, %d, p less 1) is %d", p, a, got)
			}
		}
		for _, a := range zeros(p) {
			if got := Pow(p, a, p-1); got != 0 {
				t.Errorf("Pow(%d, %d, p less 1) is %d", p, a, got)
			}
		}
	}
}
