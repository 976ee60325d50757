package dft

import (
	"fmt"
	"math"
	"math/bits"
	"slices"
	"testing"

	"bracken/api"
)

func primes() []uint64 { return []uint64{api.P0, api.P1, api.P2} }

// strangers are no primes of the document: 0, neighbours of its primes, products, and other primes.
func strangers() []uint64 {
	l := []uint64{0, 1, 2, 3, 4, 5, 7, 17, 257, 65537, 1 << 32, 1 << 63, math.MaxUint64, api.P1 * api.P2, 2 * api.P1, 469762049}
	for _, p := range primes() {
		l = append(l, p-1, p+1)
	}
	return l
}

// mul and add count by p without the layers below, so that a fault of theirs would be seen too.
func mul(p, a, b uint64) uint64 {
	high, low := bits.Mul64(a, b)
	_, rest := bits.Div64(high%p, low, p)
	return rest
}

func add(p, a, b uint64) uint64 {
	low, carry := bits.Add64(a, b, 0)
	_, rest := bits.Div64(carry, low, p)
	return rest
}

func minus(p, a uint64) uint64 { return (p - a%p) % p }

func pow(p, a, n uint64) uint64 {
	product := uint64(1)
	for ; n > 0; n /= 2 {
		if n%2 == 1 {
			product = mul(p, product, a)
		}
		a = mul(p, a, a)
	}
	return product
}

// generator is what the document writes out.
func generator(p uint64) uint64 {
	switch p {
	case api.P0:
		return 7
	case api.P1:
		return 3
	}
	return 31
}

// rootOf is the root of n words, by the words of the document.
func rootOf(p uint64, n int, neg bool) uint64 {
	order := uint64(n)
	if neg {
		order = uint64(2 * n)
	}
	return pow(p, generator(p), (p-1)/order)
}

// goesBy is the exponent of x[j] in the sum k, by the words of the document.
func goesBy(j, k int, neg bool) uint64 {
	if neg {
		return uint64(j * (2*k + 1))
	}
	return uint64(j * k)
}

// wantForward is the word k of the transform.
func wantForward(p uint64, x []uint64, neg bool, k int) uint64 {
	w := rootOf(p, len(x), neg)
	sum := uint64(0)
	for j, a := range x {
		sum = add(p, sum, mul(p, a, pow(p, w, goesBy(j, k, neg))))
	}
	return sum
}

// wantInverse is the word j of what is transformed back: of what is not 0 the power p less 2 undoes it.
func wantInverse(p uint64, y []uint64, neg bool, j int) uint64 {
	back := pow(p, rootOf(p, len(y), neg), p-2)
	sum := uint64(0)
	for k, a := range y {
		sum = add(p, sum, mul(p, a, pow(p, back, goesBy(j, k, neg))))
	}
	return mul(p, sum, pow(p, uint64(len(y)), p-2))
}

// wantWrap is the word k of the product: whichever i and j are together k, or k and n.
func wantWrap(p uint64, a, b []uint64, neg bool, k int) uint64 {
	n := len(a)
	sum := uint64(0)
	for i := range a {
		if j := k - i; j >= 0 {
			sum = add(p, sum, mul(p, a[i], b[j]))
			continue
		}
		around := mul(p, a[i], b[k+n-i])
		if neg {
			around = minus(p, around)
		}
		sum = add(p, sum, around)
	}
	return sum
}

// smooth tells whether n is a size that may be.
func smooth(n int) bool {
	if n < 1 || n > 4096 {
		return false
	}
	for _, q := range []int{2, 3, 5} {
		for n%q == 0 {
			n /= q
		}
	}
	return n == 1
}

// hasRoot tells whether there is a root of n words by p.
func hasRoot(p uint64, n int, neg bool) bool {
	order := uint64(n)
	if neg {
		order = uint64(2 * n)
	}
	return (p-1)%order == 0
}

// sizes are those of lines that may be by p, up to the greatest.
func sizes(p uint64, greatest int) []int {
	var l []int
	for n := 1; n <= greatest; n++ {
		if smooth(n) && hasRoot(p, n, true) {
			l = append(l, n)
		}
	}
	return l
}

// words are n numbers of p of all lengths, others for each salt; 0 and p less 1 are among them.
func words(p uint64, n int, salt uint64) []uint64 {
	l := make([]uint64, n)
	state := salt*2 + 1
	for i := range l {
		state = state*6364136223846793005 + 1442695040888963407
		l[i] = (state ^ state>>29) % p
		switch state >> 60 {
		case 0:
			l[i] = 0
		case 1:
			l[i] = p - 1
		case 2:
			l[i] %= 10
		}
	}
	return l
}

// unit is 0 at all of n places, but 1 at place i.
func unit(n, i int) []uint64 {
	l := make([]uint64, n)
	l[i] = 1
	return l
}

// ordinary are lines of n words: nothing, all the greatest, single ones, and mixed ones.
func ordinary(p uint64, n int) [][]uint64 {
	return [][]uint64{
		make([]uint64, n),
		slices.Repeat([]uint64{p - 1}, n),
		unit(n, 0),
		unit(n, n/2),
		unit(n, n-1),
		words(p, n, 1),
		words(p, n, 2),
	}
}

// eachKind runs a test of each prime, with neg and without, side by side.
func eachKind(t *testing.T, run func(t *testing.T, p uint64, neg bool)) {
	for _, p := range primes() {
		for _, neg := range []bool{false, true} {
			t.Run(fmt.Sprintf("%d/%v", p, neg), func(t *testing.T) {
				t.Parallel()
				run(t, p, neg)
			})
		}
	}
}

func mustForward(t *testing.T, p uint64, x []uint64, neg bool) []uint64 {
	t.Helper()
	y, e := Forward(p, x, neg)
	if e != api.OK || len(y) != len(x) {
		t.Fatalf("Forward(%d, %d words, %v): %d words, error %d", p, len(x), neg, len(y), e)
	}
	return y
}

func mustInverse(t *testing.T, p uint64, y []uint64, neg bool) []uint64 {
	t.Helper()
	x, e := Inverse(p, y, neg)
	if e != api.OK || len(x) != len(y) {
		t.Fatalf("Inverse(%d, %d words, %v): %d words, error %d", p, len(y), neg, len(x), e)
	}
	return x
}

func mustWrap(t *testing.T, p uint64, a, b []uint64, neg bool) []uint64 {
	t.Helper()
	l, e := Wrap(p, a, b, neg)
	if e != api.OK || len(l) != len(a) {
		t.Fatalf("Wrap(%d, %d words, %v): %d words, error %d", p, len(a), neg, len(l), e)
	}
	return l
}

// checkSame tells the first word that differs, since lines may be long.
func checkSame(t *testing.T, what string, got, want []uint64) {
	t.Helper()
	if len(got) != len(want) {
		t.Errorf("%s: %d words, want %d", what, len(got), len(want))
		return
	}
	for i := range got {
		if got[i] != want[i] {
			t.Errorf("%s: of %d words word %d is %d, want %d", what, len(got), i, got[i], want[i])
			return
		}
	}
}

// checkErrors asks all calls of one line; of Wrap it is both.
func checkErrors(t *testing.T, p uint64, x []uint64, neg bool, want api.Errno) {
	t.Helper()
	if e := Check(p, x, neg); e != want {
		t.Errorf("Check(%d, %d words, %v) is %d, want %d", p, len(x), neg, e, want)
	}
	if y, e := Forward(p, x, neg); len(y) != 0 || e != want {
		t.Errorf("Forward(%d, %d words, %v) is %d words, %d, want %d", p, len(x), neg, len(y), e, want)
	}
	if y, e := Inverse(p, x, neg); len(y) != 0 || e != want {
		t.Errorf("Inverse(%d, %d words, %v) is %d words, %d, want %d", p, len(x), neg, len(y), e, want)
	}
	checkWrapError(t, p, x, x, neg, want)
}

func checkWrapError(t *testing.T, p uint64, a, b []uint64, neg bool, want api.Errno) {
	t.Helper()
	if l, e := Wrap(p, a, b, neg); len(l) != 0 || e != want {
		t.Errorf("Wrap(%d, %d words, %d words, %v) is %d words, %d, want %d", p, len(a), len(b), neg, len(l), e, want)
	}
}

// P6.1: that p is no prime is told whatever else is wrong.
func TestNoPrime(t *testing.T) {
	for _, p := range strangers() {
		for _, neg := range []bool{false, true} {
			for _, x := range [][]uint64{nil, {0}, {1, 2}, {math.MaxUint64}, make([]uint64, 3), make([]uint64, 7), make([]uint64, 9), make([]uint64, 4096), make([]uint64, 4097)} {
				checkErrors(t, p, x, neg, api.ErrPrime)
				checkWrapError(t, p, x, []uint64{0}, neg, api.ErrPrime)
				checkWrapError(t, p, []uint64{0}, x, neg, api.ErrPrime)
			}
		}
	}
}

// P6.1: each number of words from none to beyond 4096, of words that are right, and of words that are not.
func TestCheckOfEachSize(t *testing.T) {
	eachKind(t, func(t *testing.T, p uint64, neg bool) {
		right := slices.Repeat([]uint64{p - 1}, 4200)
		wrong := slices.Repeat([]uint64{p}, 4200)
		for n := range 4201 {
			want, wantWrong := api.OK, api.ErrWord
			if !smooth(n) {
				want, wantWrong = api.ErrSize, api.ErrSize
			} else if !hasRoot(p, n, neg) {
				want, wantWrong = api.ErrOrder, api.ErrOrder
			}
			if e := Check(p, right[:n], neg); e != want {
				t.Errorf("Check(%d, %d words, %v) is %d, want %d", p, n, neg, e, want)
			}
			if e := Check(p, wrong[:n], neg); e != wantWrong {
				t.Errorf("Check(%d, %d wrong words, %v) is %d, want %d", p, n, neg, e, wantWrong)
			}
		}
	})
}

// P6.1: sizes that may not be, by whichever prime: no words, parts beside 2, 3 and 5 (7 and 17 divide P1 less 1), and too many words.
func TestWrongSize(t *testing.T) {
	eachKind(t, func(t *testing.T, p uint64, neg bool) {
		checkErrors(t, p, nil, neg, api.ErrSize)
		checkErrors(t, p, []uint64{}, neg, api.ErrSize)
		for _, n := range []int{7, 11, 13, 14, 17, 34, 119, 257, 2017, 4079, 4095, 4097, 4100, 4320, 5000, 8192, 16384, 65536, 65537} {
			checkErrors(t, p, make([]uint64, n), neg, api.ErrSize)
			checkErrors(t, p, slices.Repeat([]uint64{math.MaxUint64}, n), neg, api.ErrSize)
		}
	})
}

// P6.1: sizes that may be, of which there is no root; a wrong word beside that is not told. (Each prime less 1 has so many 2s that no size has a root, but none of twice its order.)
func TestNoRoot(t *testing.T) {
	for p, many := range map[uint64][]int{
		api.P0: {9, 18, 25, 27, 36, 45, 75, 81, 625, 2187, 3125, 3600, 4050},
		api.P1: {3, 5, 6, 9, 10, 12, 15, 24, 320, 768, 1280, 3072, 3125, 4050},
		api.P2: {9, 18, 25, 27, 36, 50, 225, 729, 1152, 3200, 4000, 4050},
	} {
		for _, n := range many {
			for _, neg := range []bool{false, true} {
				checkErrors(t, p, make([]uint64, n), neg, api.ErrOrder)
				checkErrors(t, p, slices.Repeat([]uint64{p}, n), neg, api.ErrOrder)
				checkErrors(t, p, slices.Repeat([]uint64{math.MaxUint64}, n), neg, api.ErrOrder)
			}
		}
	}
}

// wrongWords are no numbers of p.
func wrongWords(p uint64) []uint64 {
	return []uint64{p, p + 1, p + 1<<31, math.MaxUint64 - 1, math.MaxUint64}
}

// P6.1: one wrong word, at whichever place.
func TestWrongWord(t *testing.T) {
	eachKind(t, func(t *testing.T, p uint64, neg bool) {
		for _, n := range []int{1, 2, 4, 8, 64, 4096} {
			for _, place := range []int{0, n / 2, n - 1} {
				for _, bad := range wrongWords(p) {
					x := words(p, n, 3)
					x[place] = bad
					checkErrors(t, p, x, neg, api.ErrWord)
				}
			}
		}
	})
}

// P6.1: the greatest number of p is none that is wrong, at whichever place.
func TestGreatestWord(t *testing.T) {
	eachKind(t, func(t *testing.T, p uint64, neg bool) {
		for _, n := range []int{1, 2, 16, 4096} {
			for _, place := range []int{0, n - 1} {
				x := make([]uint64, n)
				x[place] = p - 1
				if e := Check(p, x, neg); e != api.OK {
					t.Errorf("Check(%d, %d words, %v) is %d with p less 1 at %d", p, n, neg, e, place)
				}
			}
		}
	})
}

// wrongLine is a line, and what is wrong with it.
type wrongLine struct {
	x    []uint64
	want api.Errno
}

// wrongLines are lines of each error that a prime may have, and ones that two hold of; 9 words have no root by any of the primes.
func wrongLines(p uint64) []wrongLine {
	return []wrongLine{
		{nil, api.ErrSize},
		{make([]uint64, 7), api.ErrSize},
		{[]uint64{p, p, p, p, p, p, p}, api.ErrSize},
		{make([]uint64, 4097), api.ErrSize},
		{make([]uint64, 9), api.ErrOrder},
		{slices.Repeat([]uint64{p}, 9), api.ErrOrder},
		{[]uint64{p}, api.ErrWord},
		{[]uint64{0, math.MaxUint64}, api.ErrWord},
		{[]uint64{p, 0, 0, 0}, api.ErrWord},
	}
}

// P6.3: what is wrong with a is told ahead of what is wrong with b, and both ahead of different lengths.
func TestWrapErrors(t *testing.T) {
	eachKind(t, func(t *testing.T, p uint64, neg bool) {
		for _, a := range wrongLines(p) {
			for _, b := range wrongLines(p) {
				checkWrapError(t, p, a.x, b.x, neg, a.want)
			}
			for _, n := range []int{1, 2, 4, 4096} {
				checkWrapError(t, p, a.x, make([]uint64, n), neg, a.want)
				checkWrapError(t, p, make([]uint64, n), a.x, neg, a.want)
			}
		}
	})
}

// P6.3
func TestWrapOfDifferentLengths(t *testing.T) {
	eachKind(t, func(t *testing.T, p uint64, neg bool) {
		l := append(sizes(p, 64), 2048, 4096)
		for _, n := range l {
			for _, m := range l {
				if n != m {
					checkWrapError(t, p, words(p, n, 1), words(p, m, 2), neg, api.ErrLen)
				}
			}
		}
	})
}

// P6.2: transforms that are written out.
func TestTransformWrittenOut(t *testing.T) {
	for _, x := range []struct {
		p    uint64
		neg  bool
		x, y []uint64
	}{
		{api.P0, false, []uint64{7}, []uint64{7}},
		{api.P1, true, []uint64{7}, []uint64{7}},
		{api.P0, false, []uint64{3, 5}, []uint64{8, 18446744069414584319}},
		{api.P1, false, []uint64{3, 5}, []uint64{8, 998244351}},
		{api.P2, false, []uint64{3, 5}, []uint64{8, 2013265919}},
		{api.P0, true, []uint64{0, 1}, []uint64{281474976710656, 18446462594437873665}},
		{api.P1, true, []uint64{0, 1}, []uint64{911660635, 86583718}},
		{api.P0, true, []uint64{1, 2}, []uint64{562949953421313, 18446181119461163010}},
		{api.P0, false, []uint64{0, 1, 0}, []uint64{1, 18446744065119617025, 4294967295}},
		{api.P0, false, []uint64{0, 0, 1}, []uint64{1, 4294967295, 18446744065119617025}},
		{api.P0, true, []uint64{0, 1, 0}, []uint64{18446744065119617026, 18446744069414584320, 4294967296}},
		{api.P2, false, []uint64{0, 1, 0}, []uint64{1, 1314723123, 698542797}},
		{api.P1, false, []uint64{0, 1, 0, 0}, []uint64{1, 911660635, 998244352, 86583718}},
		{api.P1, false, []uint64{0, 0, 0, 1}, []uint64{1, 86583718, 998244352, 911660635}},
		{api.P0, false, []uint64{1, 0, 0, 0}, []uint64{1, 1, 1, 1}},
		{api.P1, false, []uint64{1, 0, 0, 0}, []uint64{1, 1, 1, 1}},
		{api.P2, true, []uint64{1, 0, 0, 0}, []uint64{1, 1, 1, 1}},
		{api.P1, false, []uint64{1, 1, 1, 1}, []uint64{4, 0, 0, 0}},
	} {
		checkSame(t, "Forward", mustForward(t, x.p, x.x, x.neg), x.y)
		checkSame(t, "Inverse", mustInverse(t, x.p, x.y, x.neg), x.x)
	}
}

// checkByDefinition holds all three calls against the definition, at the places that are named.
func checkByDefinition(t *testing.T, p uint64, x, b []uint64, neg bool, places []int) {
	t.Helper()
	forward, inverse, wrap := mustForward(t, p, x, neg), mustInverse(t, p, x, neg), mustWrap(t, p, x, b, neg)
	for _, k := range places {
		if want := wantForward(p, x, neg, k); forward[k] != want {
			t.Fatalf("Forward(%d, %d words, %v): word %d is %d, want %d", p, len(x), neg, k, forward[k], want)
		}
		if want := wantInverse(p, x, neg, k); inverse[k] != want {
			t.Fatalf("Inverse(%d, %d words, %v): word %d is %d, want %d", p, len(x), neg, k, inverse[k], want)
		}
		if want := wantWrap(p, x, b, neg, k); wrap[k] != want {
			t.Fatalf("Wrap(%d, %d words, %v): word %d is %d, want %d", p, len(x), neg, k, wrap[k], want)
		}
	}
}

// allPlaces are 0 to n less 1.
func allPlaces(n int) []int {
	l := make([]int, n)
	for i := range l {
		l[i] = i
	}
	return l
}

// P6.2, P6.3: each word, of each size up to 100.
func TestSmallLinesByDefinition(t *testing.T) {
	eachKind(t, func(t *testing.T, p uint64, neg bool) {
		for _, n := range sizes(p, 100) {
			for i, x := range ordinary(p, n) {
				checkByDefinition(t, p, x, words(p, n, uint64(10+i)), neg, allPlaces(n))
			}
		}
	})
}

// P6.2, P6.3: each size up to 1024, and the two greatest ones (one, by P1), at some of their words.
func TestGreatLinesByDefinition(t *testing.T) {
	eachKind(t, func(t *testing.T, p uint64, neg bool) {
		for _, n := range sizes(p, 4096) {
			if n > 100 && n <= 1024 || n >= 3840 {
				checkByDefinition(t, p, words(p, n, 4), words(p, n, 5), neg, []int{0, 1, 2, n / 3, n/2 - 1, n / 2, n/2 + 1, n - 2, n - 1})
			}
		}
	})
}

// P6.2: a single word at j has at k just the power that it goes by.
func TestSingleWords(t *testing.T) {
	eachKind(t, func(t *testing.T, p uint64, neg bool) {
		for _, n := range sizes(p, 32) {
			w := rootOf(p, n, neg)
			undoN := pow(p, uint64(n), p-2)
			for i := range n {
				forward, inverse := mustForward(t, p, unit(n, i), neg), mustInverse(t, p, unit(n, i), neg)
				for at := range n {
					if want := pow(p, w, goesBy(i, at, neg)); forward[at] != want {
						t.Errorf("by %d of %d words, neg %v, word %d is %d at %d, want %d", p, n, neg, i, forward[at], at, want)
					}
					if undone := mul(p, inverse[at], pow(p, w, goesBy(at, i, neg))); undone != undoN {
						t.Errorf("by %d of %d words, neg %v, word %d is %d at %d when it goes back", p, n, neg, i, inverse[at], at)
					}
				}
			}
		}
	})
}

// P6.3: products that are written out.
func TestWrapWrittenOut(t *testing.T) {
	for _, p := range primes() {
		for _, x := range []struct {
			neg     bool
			a, b, l []uint64
		}{
			{false, []uint64{6}, []uint64{7}, []uint64{42}},
			{true, []uint64{6}, []uint64{7}, []uint64{42}},
			{false, []uint64{p - 1}, []uint64{p - 1}, []uint64{1}},
			{false, []uint64{1, 2}, []uint64{3, 4}, []uint64{11, 10}},
			{true, []uint64{1, 2}, []uint64{3, 4}, []uint64{p - 5, 10}},
			{true, []uint64{0, 1}, []uint64{0, 1}, []uint64{p - 1, 0}},
			{false, []uint64{1, 2, 3, 4}, []uint64{0, 1, 0, 0}, []uint64{4, 1, 2, 3}},
			{true, []uint64{1, 2, 3, 4}, []uint64{0, 1, 0, 0}, []uint64{p - 4, 1, 2, 3}},
			{false, []uint64{1, 2, 3, 4}, []uint64{0, 0, 0, 1}, []uint64{2, 3, 4, 1}},
			{true, []uint64{1, 2, 3, 4}, []uint64{0, 0, 0, 1}, []uint64{p - 2, p - 3, p - 4, 1}},
			{false, []uint64{1, 2, 3, 4}, []uint64{5, 6, 7, 8}, []uint64{66, 68, 66, 60}},
			{true, []uint64{1, 2, 3, 4}, []uint64{5, 6, 7, 8}, []uint64{p - 56, p - 36, 2, 60}},
		} {
			checkSame(t, "Wrap", mustWrap(t, p, x.a, x.b, x.neg), x.l)
			checkSame(t, "Wrap the other way round", mustWrap(t, p, x.b, x.a, x.neg), x.l)
		}
	}
}

// P6.3: the same list for both is what two lists of the same words are.
func TestWrapOfTheSameList(t *testing.T) {
	eachKind(t, func(t *testing.T, p uint64, neg bool) {
		for _, n := range sizes(p, 64) {
			a := words(p, n, 6)
			l := mustWrap(t, p, a, a, neg)
			checkSame(t, "Wrap of one list", l, mustWrap(t, p, a, slices.Clone(a), neg))
			for k, got := range l {
				if want := wantWrap(p, a, a, neg, k); got != want {
					t.Errorf("Wrap(%d, %d words twice, %v): word %d is %d, want %d", p, n, neg, k, got, want)
				}
			}
		}
	})
}

// P6.4: there and back, and back and there.
func TestThereAndBack(t *testing.T) {
	eachKind(t, func(t *testing.T, p uint64, neg bool) {
		for _, n := range append(sizes(p, 128), 512) {
			for _, x := range ordinary(p, n) {
				checkSame(t, "Inverse of Forward", mustInverse(t, p, mustForward(t, p, x, neg), neg), x)
				checkSame(t, "Forward of Inverse", mustForward(t, p, mustInverse(t, p, x, neg), neg), x)
			}
		}
	})
}

// P6.4: as many words as there may be.
func TestThereAndBackOf4096(t *testing.T) {
	eachKind(t, func(t *testing.T, p uint64, neg bool) {
		x := words(p, 4096, 7)
		checkSame(t, "Inverse of Forward", mustInverse(t, p, mustForward(t, p, x, neg), neg), x)
	})
}

// together is a plus c times b, word by word.
func together(p uint64, a []uint64, c uint64, b []uint64) []uint64 {
	l := make([]uint64, len(a))
	for i := range l {
		l[i] = add(p, a[i], mul(p, c, b[i]))
	}
	return l
}

// P6.4: sums go through, and so does what they are times.
func TestSumsGoThrough(t *testing.T) {
	eachKind(t, func(t *testing.T, p uint64, neg bool) {
		for _, n := range sizes(p, 128) {
			a, b := words(p, n, 8), words(p, n, 9)
			for _, c := range []uint64{1, 2, p - 1} {
				sum := together(p, a, c, b)
				checkSame(t, "Forward of a sum", mustForward(t, p, sum, neg), together(p, mustForward(t, p, a, neg), c, mustForward(t, p, b, neg)))
				checkSame(t, "Inverse of a sum", mustInverse(t, p, sum, neg), together(p, mustInverse(t, p, a, neg), c, mustInverse(t, p, b, neg)))
			}
		}
	})
}

// P6.4: Forward of Wrap is the product of both Forwards, word by word.
func TestForwardOfWrap(t *testing.T) {
	eachKind(t, func(t *testing.T, p uint64, neg bool) {
		for _, n := range append(sizes(p, 128), 512) {
			for i, a := range ordinary(p, n) {
				b := words(p, n, uint64(20+i))
				products := mustForward(t, p, a, neg)
				for k, y := range mustForward(t, p, b, neg) {
					products[k] = mul(p, products[k], y)
				}
				checkSame(t, "Forward of Wrap", mustForward(t, p, mustWrap(t, p, a, b, neg), neg), products)
			}
		}
	})
}

// transforms are the calls that tell a list, each asked of one line.
func transforms(p uint64, neg bool) map[string]func(x []uint64) ([]uint64, api.Errno) {
	return map[string]func(x []uint64) ([]uint64, api.Errno){
		"Forward": func(x []uint64) ([]uint64, api.Errno) { return Forward(p, x, neg) },
		"Inverse": func(x []uint64) ([]uint64, api.Errno) { return Inverse(p, x, neg) },
		"Wrap":    func(x []uint64) ([]uint64, api.Errno) { return Wrap(p, x, x, neg) },
		"Wrap with nothing ahead": func(x []uint64) ([]uint64, api.Errno) {
			return Wrap(p, unit(len(x), 0), x, neg)
		},
		"Wrap with nothing behind": func(x []uint64) ([]uint64, api.Errno) {
			return Wrap(p, x, unit(len(x), 0), neg)
		},
	}
}

// P6.2, P6.3: what is handed in stays as it was, behind its end too; what is told is new at each call.
func TestWhatIsToldIsNew(t *testing.T) {
	eachKind(t, func(t *testing.T, p uint64, neg bool) {
		for _, n := range []int{1, 2, 4, 32, 128} {
			for name, call := range transforms(p, neg) {
				whole := words(p, 2*n, 11)
				kept := slices.Clone(whole)
				first, e := call(whole[:n])
				second, f := call(whole[:n])
				if e != api.OK || f != api.OK {
					t.Fatalf("%s(%d, %d words, %v): errors %d, %d", name, p, n, neg, e, f)
				}
				checkSame(t, name+" leaves its words", whole, kept)
				checkSame(t, name+" once more", second, first)
				told := slices.Clone(first)
				for i := range second {
					second[i]++
				}
				checkSame(t, name+", the other answer written into", first, told)
				checkSame(t, name+" leaves its words, its answer written into", whole, kept)
				clear(whole)
				checkSame(t, name+", its words written into", first, told)
			}
		}
	})
}

// P6.1: Check, and calls that tell an error, leave what is handed in as it was too.
func TestErrorsLeaveTheWords(t *testing.T) {
	eachKind(t, func(t *testing.T, p uint64, neg bool) {
		for _, n := range []int{1, 4, 7, 9, 64} {
			x := words(p, n, 12)
			x[n-1] = math.MaxUint64
			kept := slices.Clone(x)
			Check(p, x, neg)
			for _, call := range transforms(p, neg) {
				call(x)
			}
			checkSame(t, "words of an error", x, kept)
		}
	})
}
