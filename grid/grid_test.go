package grid

import (
	"fmt"
	"math"
	"math/bits"
	"slices"
	"testing"

	"bracken/api"
	"bracken/dft"
)

func primes() []uint64 { return []uint64{api.P0, api.P1, api.P2} }

// strangers are no primes of the document: 0, neighbours of its primes, products, and other primes.
func strangers() []uint64 {
	l := []uint64{0, 1, 2, 3, 4, 5, 7, 17, 257, 65537, 1 << 32, 1 << 63, math.MaxUint64, api.P1 * api.P2, 2 * api.P1, 469762049}
	for _, p := range primes() {
		l = append(l, p-1, p+1)
	}
	return l
}

// mul and add count by p without the layers below, so that a fault of theirs would be seen too.
func mul(p, a, b uint64) uint64 {
	high, low := bits.Mul64(a, b)
	_, rest := bits.Div64(high%p, low, p)
	return rest
}

func add(p, a, b uint64) uint64 {
	low, carry := bits.Add64(a, b, 0)
	_, rest := bits.Div64(carry, low, p)
	return rest
}

func pow(p, a, n uint64) uint64 {
	product := uint64(1)
	for ; n > 0; n /= 2 {
		if n%2 == 1 {
			product = mul(p, product, a)
		}
		a = mul(p, a, a)
	}
	return product
}

// generator is what the document writes out.
func generator(p uint64) uint64 {
	switch p {
	case api.P0:
		return 7
	case api.P1:
		return 3
	}
	return 31
}

// order is that of the root of an axis, by the words of the document.
func order(a api.Axis) uint64 {
	if a.Neg {
		return 2 * uint64(a.N)
	}
	return uint64(a.N)
}

// goesBy is by what each word of a line goes into the one at place to, by the words of the document; of what is not 0 the power p less 2 undoes it.
func goesBy(p uint64, a api.Axis, inv bool, to int) []uint64 {
	w := pow(p, generator(p), (p-1)/order(a))
	by := uint64(1)
	if inv {
		w, by = pow(p, w, p-2), pow(p, uint64(a.N), p-2)
	}
	l := make([]uint64, a.N)
	for from := range l {
		j, k := from, to
		if inv {
			j, k = to, from
		}
		exponent := j * k
		if a.Neg {
			exponent = j * (2*k + 1)
		}
		l[from] = mul(p, by, pow(p, w, uint64(exponent)))
	}
	return l
}

// coords are the coordinates of all words in order of their places, the last one fastest.
func coords(axes []api.Axis) [][]int {
	if len(axes) == 0 {
		return [][]int{nil}
	}
	var l [][]int
	for _, c := range coords(axes[:len(axes)-1]) {
		for last := range axes[len(axes)-1].N {
			l = append(l, append(slices.Clone(c), last))
		}
	}
	return l
}

// wantDo is the word at a place of what all axes come to: the sum of all words, each by what it goes by along each axis.
func wantDo(p uint64, axes []api.Axis, inv bool, x []uint64, all [][]int, place int) uint64 {
	by := make([][]uint64, len(axes))
	for i, a := range axes {
		by[i] = goesBy(p, a, inv, all[place][i])
	}
	sum := uint64(0)
	for from, c := range all {
		word := x[from]
		for i := range axes {
			word = mul(p, word, by[i][c[i]])
		}
		sum = add(p, sum, word)
	}
	return sum
}

// sameLine tells whether two words have the same coordinates, but of that axis.
func sameLine(c, d []int, axis int) bool {
	for i := range c {
		if i != axis && c[i] != d[i] {
			return false
		}
	}
	return true
}

// wantAxis is the word at a place of what one axis comes to: the sum of all words of its line.
func wantAxis(p uint64, axes []api.Axis, axis int, inv bool, x []uint64, all [][]int, place int) uint64 {
	by := goesBy(p, axes[axis], inv, all[place][axis])
	sum := uint64(0)
	for from, c := range all {
		if sameLine(c, all[place], axis) {
			sum = add(p, sum, mul(p, x[from], by[c[axis]]))
		}
	}
	return sum
}

// smooth tells whether n is a size that may be.
func smooth(n int) bool {
	if n < 1 || n > 4096 {
		return false
	}
	for _, q := range []int{2, 3, 5} {
		for n%q == 0 {
			n /= q
		}
	}
	return n == 1
}

// wantLength is what is wrong with axes of which but one have the length 1.
func wantLength(p uint64, a api.Axis) api.Errno {
	switch {
	case a.N < 1 || a.N > 4096:
		return api.ErrDims
	case !smooth(a.N):
		return api.ErrSize
	case (p-1)%order(a) != 0:
		return api.ErrOrder
	}
	return api.OK
}

// plain are axes of these lengths, none of them Neg.
func plain(dims ...int) []api.Axis {
	l := make([]api.Axis, len(dims))
	for i, d := range dims {
		l[i].N = d
	}
	return l
}

// product is how many words axes have that may be.
func product(axes []api.Axis) int {
	n := 1
	for _, a := range axes {
		n *= a.N
	}
	return n
}

// signs are axes of these lengths, with each of them Neg and not, side by side.
func signs(dims ...int) [][]api.Axis {
	l := [][]api.Axis{plain(dims...)}
	for i := range dims {
		for _, axes := range slices.Clone(l) {
			other := slices.Clone(axes)
			other[i].Neg = true
			l = append(l, other)
		}
	}
	return l
}

// shapes are lengths of axes that may be by p: one to four of them, of length 1 at each place; 3 and 5 divide P0 and P2 less 1, once.
func shapes(p uint64) [][]int {
	l := [][]int{
		{1}, {2}, {4}, {8}, {32}, {1, 1}, {2, 2}, {2, 4}, {4, 2}, {1, 8}, {8, 1}, {16, 8}, {8, 8},
		{1, 1, 1}, {2, 2, 2}, {4, 1, 2}, {1, 4, 2}, {4, 2, 1}, {2, 4, 8}, {8, 4, 2},
		{1, 1, 1, 1}, {2, 2, 2, 2}, {1, 4, 1, 2}, {4, 2, 1, 2}, {1, 1, 1, 4}, {4, 1, 1, 1}, {2, 4, 2, 8},
	}
	if p != api.P1 {
		l = append(l, [][]int{{3}, {5}, {15}, {60}, {2, 3}, {3, 2}, {5, 3}, {3, 3}, {6, 10}, {2, 3, 4}, {3, 5, 2}, {2, 3, 1, 5}, {3, 2, 5, 4}}...)
	}
	return l
}

// words are n numbers of p of all lengths, others for each salt; 0 and p less 1 are among them.
func words(p uint64, n int, salt uint64) []uint64 {
	l := make([]uint64, n)
	state := salt*2 + 1
	for i := range l {
		state = state*6364136223846793005 + 1442695040888963407
		l[i] = (state ^ state>>29) % p
		switch state >> 60 {
		case 0:
			l[i] = 0
		case 1:
			l[i] = p - 1
		case 2:
			l[i] %= 10
		}
	}
	return l
}

// unit is 0 at all of n places, but 1 at place i.
func unit(n, i int) []uint64 {
	l := make([]uint64, n)
	l[i] = 1
	return l
}

// ordinary are lists of n words: nothing, all the greatest, single ones, and mixed ones.
func ordinary(p uint64, n int) [][]uint64 {
	return [][]uint64{
		make([]uint64, n),
		slices.Repeat([]uint64{p - 1}, n),
		unit(n, 0),
		unit(n, n-1),
		words(p, n, 1),
	}
}

// eachKind runs a test of each prime, there and back, side by side.
func eachKind(t *testing.T, run func(t *testing.T, p uint64, inv bool)) {
	for _, p := range primes() {
		for _, inv := range []bool{false, true} {
			t.Run(fmt.Sprintf("%d/%v", p, inv), func(t *testing.T) {
				t.Parallel()
				run(t, p, inv)
			})
		}
	}
}

func mustAxis(t *testing.T, p uint64, axes []api.Axis, axis int, inv bool, x []uint64) []uint64 {
	t.Helper()
	y, e := Axis(p, axes, axis, inv, x)
	if e != api.OK || len(y) != len(x) {
		t.Fatalf("Axis(%d, %v, %d, %v, %d words): %d words, error %d", p, axes, axis, inv, len(x), len(y), e)
	}
	return y
}

func mustDo(t *testing.T, p uint64, axes []api.Axis, inv bool, x []uint64) []uint64 {
	t.Helper()
	y, e := Do(p, axes, inv, x)
	if e != api.OK || len(y) != len(x) {
		t.Fatalf("Do(%d, %v, %v, %d words): %d words, error %d", p, axes, inv, len(x), len(y), e)
	}
	return y
}

// checkSame tells the first word that differs, since there may be many.
func checkSame(t *testing.T, what string, axes []api.Axis, got, want []uint64) {
	t.Helper()
	if len(got) != len(want) {
		t.Errorf("%s of %v: %d words, want %d", what, axes, len(got), len(want))
		return
	}
	for i := range got {
		if got[i] != want[i] {
			t.Errorf("%s of %v: word %d is %d, want %d", what, axes, i, got[i], want[i])
			return
		}
	}
}

func checkAxisError(t *testing.T, p uint64, axes []api.Axis, axis int, x []uint64, want api.Errno) {
	t.Helper()
	for _, inv := range []bool{false, true} {
		if y, e := Axis(p, axes, axis, inv, x); len(y) != 0 || e != want {
			t.Errorf("Axis(%d, %v, %d, %v, %d words) is %d words, %d, want %d", p, axes[:min(len(axes), 6)], axis, inv, len(x), len(y), e, want)
		}
	}
}

// outside are numbers of axes that there are not, if there are many.
func outside(many int) []int {
	return []int{-1, -2, -many, -many - 1, math.MinInt, math.MinInt + 1, many, many + 1, 2*many + 4, 1 << 32, 1<<32 + many, math.MaxInt - 1, math.MaxInt}
}

// checkWordErrors asks both transforms; that there is no such axis is told behind all else.
func checkWordErrors(t *testing.T, p uint64, axes []api.Axis, x []uint64, want api.Errno) {
	t.Helper()
	for axis := range min(len(axes), 6) {
		checkAxisError(t, p, axes, axis, x, want)
	}
	for _, axis := range outside(len(axes)) {
		checkAxisError(t, p, axes, axis, x, want)
	}
	for _, inv := range []bool{false, true} {
		if y, e := Do(p, axes, inv, x); len(y) != 0 || e != want {
			t.Errorf("Do(%d, %v, %v, %d words) is %d words, %d, want %d", p, axes[:min(len(axes), 6)], inv, len(x), len(y), e, want)
		}
	}
}

// checkAxesErrors asks all calls; what is wrong with words is told behind what is wrong with axes.
func checkAxesErrors(t *testing.T, p uint64, axes []api.Axis, want api.Errno) {
	t.Helper()
	if e := Check(p, axes); e != want {
		t.Errorf("Check(%d, %v) is %d, want %d", p, axes[:min(len(axes), 6)], e, want)
	}
	for _, x := range [][]uint64{nil, {0}, {math.MaxUint64}, make([]uint64, 7), make([]uint64, 9), slices.Repeat([]uint64{p}, 9), make([]uint64, 4096)} {
		checkWordErrors(t, p, axes, x, want)
	}
}

// P7.1: as many as there are, whether they may be or not.
func TestDims(t *testing.T) {
	for _, want := range [][]int{
		nil, {1}, {2}, {4096}, {0}, {-1}, {4097}, {math.MaxInt}, {math.MinInt}, {2, 3}, {3, 2}, {2, 3, 4, 5}, {7, 0, -7, 11},
		{1, 2, 3, 4, 5}, {0, 0, 0, 0, 0}, {math.MinInt, 1, math.MaxInt, 0, 4096, -1}, slices.Repeat([]int{3, 1}, 1000),
	} {
		for _, neg := range []bool{false, true} {
			axes := plain(want...)
			for i := range axes {
				axes[i].Neg = neg != (i%2 == 0)
			}
			if got := Dims(axes); !slices.Equal(got, want) {
				t.Errorf("Dims(%v) is %v", axes, got)
			}
		}
	}
}

// P7.1: what is told is new, and what is handed in stays as it was, behind its end too.
func TestDimsAreNew(t *testing.T) {
	axes := []api.Axis{{N: 2}, {N: 3, Neg: true}, {N: 4}, {N: 5}}
	kept := slices.Clone(axes)
	first, second := Dims(axes[:2]), Dims(axes[:2])
	first[0], first[1] = 8, 9
	_ = append(first, 7)
	if !slices.Equal(second, []int{2, 3}) || !slices.Equal(axes, kept) {
		t.Errorf("%v and %v are left when an answer is written into", second, axes)
	}
	clear(axes)
	if !slices.Equal(second, []int{2, 3}) {
		t.Errorf("%v is left when the axes are written into", second)
	}
}

// P7.1: that p is no prime is told whatever else is wrong.
func TestNoPrime(t *testing.T) {
	for _, p := range strangers() {
		for _, axes := range [][]api.Axis{nil, plain(1), plain(2), plain(2, 2), {{N: 4, Neg: true}}, plain(0), plain(-1), plain(7), plain(9), plain(3), plain(4096), plain(4097), plain(64, 65), plain(1, 1, 1, 1, 1), plain(math.MaxInt, math.MinInt)} {
			checkAxesErrors(t, p, axes, api.ErrPrime)
		}
	}
}

// wrongDims may not be: none, too many, one too short, too much in them, some with a product that comes around to one that might be, and ones that have a wrong size, or no root, beside that.
func wrongDims() [][]int {
	return [][]int{
		nil, {}, {1, 1, 1, 1, 1}, {2, 2, 2, 2, 2}, {1, 1, 1, 1, 1, 1}, {2, 2, 2, 2, 0}, {0, 0, 0, 0, 0}, slices.Repeat([]int{1}, 65537),
		{0}, {0, 0}, {0, 4}, {4, 0}, {4096, 0}, {0, 4096}, {1, 0, 1}, {1, 1, 1, 0}, {2, 0, 2, 2},
		{-1}, {-2}, {-4096}, {-1, -1}, {-2, -2}, {2, -1}, {-1, 2}, {1, 1, 1, -1}, {-1, -1, -1, -1}, {-64, -64},
		{math.MinInt}, {math.MinInt + 1}, {1, math.MinInt}, {math.MinInt, 1}, {math.MinInt, 2}, {math.MinInt, math.MinInt}, {2, 2, 2, math.MinInt},
		{math.MaxInt}, {1, math.MaxInt}, {math.MaxInt, 1}, {math.MaxInt, math.MaxInt}, {math.MaxInt, math.MinInt}, {1, 1, 1, math.MaxInt},
		{4097}, {4098}, {4100}, {8192}, {4320}, {1, 4097}, {4097, 1}, {2, 2049}, {2, 4096}, {4096, 2}, {64, 65}, {65, 64}, {64, 128}, {3, 1366}, {17, 241}, {8, 8, 8, 9}, {16, 16, 17}, {4096, 1, 1, 2},
		{4096, 4096, 4096, 4096}, {1 << 32, 1 << 32}, {1 << 62, 4}, {4, 1 << 62}, {65536, 65536, 65536, 65536}, {1 << 32, 1 << 32, 1 << 32, 1 << 32}, {4096, 1 << 52, 1}, {3, 6148914691236517206}, {641, 6700417, 641, 6700417},
		{7, 0}, {0, 7}, {-7}, {9, 0}, {0, 9}, {7, 4096}, {4096, 7}, {9, 4096}, {4096, 9}, {7, 1, 1, 1, 1}, {9, 9, 9, 9, 9}, {7, 9, 4096},
	}
}

// P7.1
func TestWrongDims(t *testing.T) {
	for _, p := range primes() {
		for _, dims := range wrongDims() {
			axes := plain(dims...)
			checkAxesErrors(t, p, axes, api.ErrDims)
			for i := range axes {
				axes[i].Neg = true
			}
			checkAxesErrors(t, p, axes, api.ErrDims)
		}
	}
}

// P7.1: each length from below 0 to beyond 4096, of one axis, and beside axes of length 1.
func TestCheckOfEachLength(t *testing.T) {
	one := api.Axis{N: 1}
	for _, p := range primes() {
		for n := -3; n <= 4200; n++ {
			for _, neg := range []bool{false, true} {
				a := api.Axis{N: n, Neg: neg}
				want := wantLength(p, a)
				for _, axes := range [][]api.Axis{{a}, {a, one}, {one, a}, {one, a, one}, {a, one, one, one}, {one, one, one, a}} {
					if e := Check(p, axes); e != want {
						t.Errorf("Check(%d, %v) is %d, want %d", p, axes, e, want)
					}
				}
			}
		}
	}
}

// P7.1: as many words as there may be, and as many axes; of each prime there are roots of 8192.
func TestGreatestAxes(t *testing.T) {
	for _, p := range primes() {
		for _, dims := range [][]int{{4096}, {1, 4096}, {4096, 1}, {1, 1, 1, 4096}, {4096, 1, 1, 1}, {64, 64}, {2, 2048}, {2048, 2}, {16, 16, 16}, {8, 8, 8, 8}, {2, 2, 2, 512}, {1, 1, 1, 1}} {
			for _, axes := range signs(dims...) {
				if e := Check(p, axes); e != api.OK {
					t.Errorf("Check(%d, %v) is %d", p, axes, e)
				}
			}
		}
	}
}

// P7.1: a size that may not be, at each axis, told ahead of a root that another one lacks (7 and 17 divide P1 less 1, 17 and 257 divide P0 less 1; 9 and 25 divide none).
func TestWrongSize(t *testing.T) {
	for _, p := range primes() {
		for _, n := range []int{7, 11, 13, 14, 17, 34, 257} {
			for _, dims := range [][]int{{n}, {n, 1}, {1, n}, {n, 2}, {2, n}, {2, n, 2}, {n, 2, 2, 2}, {2, 2, 2, n}, {n, 9}, {9, n}, {9, n, 1}, {n, 1, 1, 9}, {9, 1, 1, n}, {4, n, 2}} {
				for _, axes := range signs(dims...) {
					checkAxesErrors(t, p, axes, api.ErrSize)
				}
			}
		}
		checkAxesErrors(t, p, plain(4095), api.ErrSize)
		checkAxesErrors(t, p, plain(7, 11, 13), api.ErrSize)
		checkAxesErrors(t, p, plain(25, 7), api.ErrSize)
		checkAxesErrors(t, p, plain(7, 25), api.ErrSize)
	}
}

// P7.1: a size that may be without a root, at each axis, Neg and not. (Each prime less 1 has so many 2s that no size has a root, but none of twice its order.)
func TestNoRoot(t *testing.T) {
	for p, many := range map[uint64][]int{
		api.P0: {9, 18, 25, 27, 75, 225},
		api.P1: {3, 5, 6, 9, 10, 12, 15, 24, 320},
		api.P2: {9, 18, 25, 27, 50, 225},
	} {
		for _, n := range many {
			for _, dims := range [][]int{{n}, {n, 1}, {1, n}, {n, 2}, {2, n}, {2, n, 2}, {n, 2, 2, 1}, {1, 2, 2, n}, {4, 2, n}} {
				for _, axes := range signs(dims...) {
					checkAxesErrors(t, p, axes, api.ErrOrder)
				}
			}
		}
		checkAxesErrors(t, p, plain(9, 25), api.ErrOrder)
		checkAxesErrors(t, p, plain(4050), api.ErrOrder)
	}
}

// P7.2, P7.3: too few words, too many, and none; a wrong word beside that is not told.
func TestWrongLength(t *testing.T) {
	for _, p := range primes() {
		for _, dims := range append(shapes(p), []int{4096}, []int{64, 64}, []int{8, 8, 8, 8}) {
			axes := plain(dims...)
			axes[len(axes)-1].Neg = true
			n := product(axes)
			for _, many := range []int{0, 1, n / 2, n - 1, n + 1, n + 2, 2 * n, 4096, 4097, 65536} {
				if many != n {
					checkWordErrors(t, p, axes, make([]uint64, many), api.ErrLen)
					checkWordErrors(t, p, axes, slices.Repeat([]uint64{p}, many), api.ErrLen)
				}
			}
			checkWordErrors(t, p, axes, nil, api.ErrLen)
			checkWordErrors(t, p, axes, slices.Repeat([]uint64{math.MaxUint64}, n-1), api.ErrLen)
		}
	}
}

// P7.2, P7.3: one wrong word, at whichever place.
func TestWrongWord(t *testing.T) {
	for _, p := range primes() {
		for _, dims := range append(shapes(p), []int{4096}, []int{64, 64}, []int{8, 8, 8, 8}) {
			axes := plain(dims...)
			axes[0].Neg = true
			n := product(axes)
			for _, place := range []int{0, n / 2, n - 1} {
				for _, bad := range []uint64{p, p + 1, p + 1<<31, math.MaxUint64 - 1, math.MaxUint64} {
					x := words(p, n, 3)
					x[place] = bad
					checkWordErrors(t, p, axes, x, api.ErrWord)
				}
			}
		}
	}
}

// P7.2, P7.3: the greatest number of p is none that is wrong, at whichever place.
func TestGreatestWord(t *testing.T) {
	eachKind(t, func(t *testing.T, p uint64, inv bool) {
		for _, dims := range append(shapes(p), []int{64, 64}) {
			axes := plain(dims...)
			n := product(axes)
			for _, place := range []int{0, n / 2, n - 1} {
				x := make([]uint64, n)
				x[place] = p - 1
				mustDo(t, p, axes, inv, x)
				for axis := range axes {
					mustAxis(t, p, axes, axis, inv, x)
				}
			}
		}
	})
}

// P7.2: numbers of axes that there are not, of words that are right.
func TestNoSuchAxis(t *testing.T) {
	for _, p := range primes() {
		for _, dims := range append(shapes(p), []int{4096}, []int{1, 4096}) {
			for _, axes := range signs(dims...) {
				x := words(p, product(axes), 4)
				for _, axis := range outside(len(axes)) {
					checkAxisError(t, p, axes, axis, x, api.ErrArg)
				}
			}
		}
	}
}

// P7.2, P7.3: transforms that are written out.
func TestWrittenOut(t *testing.T) {
	for _, p := range primes() {
		// By i a word goes that has turned by a quarter.
		i := pow(p, generator(p), (p-1)/4)
		for _, c := range []struct {
			axes []api.Axis
			x, y []uint64
		}{
			{plain(1), []uint64{7}, []uint64{7}},
			{plain(2), []uint64{3, 5}, []uint64{8, p - 2}},
			{plain(2, 2), []uint64{1, 0, 0, 0}, []uint64{1, 1, 1, 1}},
			{plain(2, 2), []uint64{1, 2, 3, 4}, []uint64{10, p - 2, p - 4, 0}},
			{plain(2, 1, 2), []uint64{1, 2, 3, 4}, []uint64{10, p - 2, p - 4, 0}},
			{plain(1, 2), []uint64{3, 5}, []uint64{8, p - 2}},
			{plain(2, 1), []uint64{3, 5}, []uint64{8, p - 2}},
			{plain(4), []uint64{0, 1, 0, 0}, []uint64{1, i, p - 1, p - i}},
			{plain(2, 4), []uint64{0, 1, 0, 0, 0, 0, 0, 0}, []uint64{1, i, p - 1, p - i, 1, i, p - 1, p - i}},
			{plain(4, 2), []uint64{0, 0, 1, 0, 0, 0, 0, 0}, []uint64{1, 1, i, i, p - 1, p - 1, p - i, p - i}},
			{plain(2, 2, 2), []uint64{0, 0, 0, 0, 0, 0, 0, 1}, []uint64{1, p - 1, p - 1, 1, p - 1, 1, 1, p - 1}},
			{plain(2, 2, 2, 2), unit(16, 2), []uint64{1, 1, p - 1, p - 1, 1, 1, p - 1, p - 1, 1, 1, p - 1, p - 1, 1, 1, p - 1, p - 1}},
			{[]api.Axis{{N: 2, Neg: true}, {N: 2}}, []uint64{0, 0, 1, 0}, []uint64{i, i, p - i, p - i}},
			{[]api.Axis{{N: 2}, {N: 2, Neg: true}}, []uint64{0, 1, 0, 0}, []uint64{i, p - i, i, p - i}},
			{[]api.Axis{{N: 2, Neg: true}, {N: 2}}, []uint64{0, 1, 0, 0}, []uint64{1, p - 1, 1, p - 1}},
			{[]api.Axis{{N: 2}, {N: 2, Neg: true}}, []uint64{0, 0, 1, 0}, []uint64{1, 1, p - 1, p - 1}},
			{[]api.Axis{{N: 2, Neg: true}, {N: 2, Neg: true}}, []uint64{0, 0, 0, 1}, []uint64{p - 1, 1, 1, p - 1}},
		} {
			checkSame(t, "Do", c.axes, mustDo(t, p, c.axes, false, c.x), c.y)
			checkSame(t, "Do back", c.axes, mustDo(t, p, c.axes, true, c.y), c.x)
		}
		two := plain(2, 2)
		x := []uint64{1, 2, 3, 4}
		for axis, y := range [][]uint64{{4, 6, p - 2, p - 2}, {3, p - 1, 7, p - 1}} {
			checkSame(t, "Axis", two, mustAxis(t, p, two, axis, false, x), y)
			checkSame(t, "Axis back", two, mustAxis(t, p, two, axis, true, y), x)
		}
	}
}

// checkByDefinition holds both transforms against the definition, at the places that are named.
func checkByDefinition(t *testing.T, p uint64, axes []api.Axis, inv bool, x []uint64, places []int) {
	t.Helper()
	all := coords(axes)
	y := mustDo(t, p, axes, inv, x)
	for _, place := range places {
		if want := wantDo(p, axes, inv, x, all, place); y[place] != want {
			t.Fatalf("Do(%d, %v, %v): word %d is %d, want %d", p, axes, inv, place, y[place], want)
		}
	}
	for axis := range axes {
		y := mustAxis(t, p, axes, axis, inv, x)
		for _, place := range places {
			if want := wantAxis(p, axes, axis, inv, x, all, place); y[place] != want {
				t.Fatalf("Axis(%d, %v, %d, %v): word %d is %d, want %d", p, axes, axis, inv, place, y[place], want)
			}
		}
	}
}

// allPlaces are 0 to n less 1.
func allPlaces(n int) []int {
	l := make([]int, n)
	for i := range l {
		l[i] = i
	}
	return l
}

// P7.2, P7.3: each word, of each axis, Neg and not, side by side.
func TestByDefinition(t *testing.T) {
	eachKind(t, func(t *testing.T, p uint64, inv bool) {
		for _, dims := range shapes(p) {
			for i, axes := range signs(dims...) {
				n := product(axes)
				checkByDefinition(t, p, axes, inv, words(p, n, uint64(i)), allPlaces(n))
			}
		}
	})
}

// P7.2, P7.3: words that are all the same, or all but one.
func TestOrdinaryByDefinition(t *testing.T) {
	eachKind(t, func(t *testing.T, p uint64, inv bool) {
		for _, dims := range [][]int{{8}, {2, 4}, {4, 2, 8}, {2, 1, 4, 2}} {
			for _, axes := range signs(dims...) {
				n := product(axes)
				for _, x := range ordinary(p, n) {
					checkByDefinition(t, p, axes, inv, x, allPlaces(n))
				}
			}
		}
	})
}

// P7.2, P7.3: as many words as there may be, or nearly, at some of them.
func TestGreatByDefinition(t *testing.T) {
	eachKind(t, func(t *testing.T, p uint64, inv bool) {
		great := [][]api.Axis{
			{{N: 4096, Neg: true}},
			{{N: 64}, {N: 64, Neg: true}},
			{{N: 2, Neg: true}, {N: 1024}, {N: 2}},
			{{N: 16}, {N: 16, Neg: true}, {N: 16}},
			{{N: 8}, {N: 8, Neg: true}, {N: 8, Neg: true}, {N: 8}},
			{{N: 512, Neg: true}, {N: 2}, {N: 1}, {N: 4}},
		}
		if p != api.P1 {
			great = append(great, []api.Axis{{N: 60}, {N: 60, Neg: true}}, []api.Axis{{N: 15, Neg: true}, {N: 5}, {N: 6}, {N: 8}})
		}
		for _, axes := range great {
			n := product(axes)
			checkByDefinition(t, p, axes, inv, words(p, n, 5), []int{0, 1, n / 3, n/2 - 1, n / 2, n - 2, n - 1})
		}
	})
}

// P7.2: a word changes none but those of its line.
func TestOtherLinesStay(t *testing.T) {
	eachKind(t, func(t *testing.T, p uint64, inv bool) {
		for _, axes := range [][]api.Axis{{{N: 2}, {N: 4, Neg: true}, {N: 8}}, {{N: 4, Neg: true}, {N: 2}, {N: 2}, {N: 4}}} {
			all := coords(axes)
			for at := range all {
				for axis := range axes {
					for place, word := range mustAxis(t, p, axes, axis, inv, unit(len(all), at)) {
						// A single word goes everywhere in its line by a power, and no power is 0.
						if (word != 0) != sameLine(all[at], all[place], axis) {
							t.Errorf("Axis(%d, %v, %d, %v): of a word at %d word %d is %d", p, axes, axis, inv, at, place, word)
						}
					}
				}
			}
		}
	})
}

// line is what dft makes of one line.
func line(p uint64, x []uint64, neg, inv bool) ([]uint64, api.Errno) {
	if inv {
		return dft.Inverse(p, x, neg)
	}
	return dft.Forward(p, x, neg)
}

// P7.2, P7.3: of one axis it is dft's transform of a line, of each length up to 128 that may be, and of 1024 (4096 words are held against the definition elsewhere).
func TestOneAxis(t *testing.T) {
	eachKind(t, func(t *testing.T, p uint64, inv bool) {
		for n := range 1025 {
			for _, neg := range []bool{false, true} {
				a := api.Axis{N: n, Neg: neg}
				if n > 128 && n != 1024 || wantLength(p, a) != api.OK {
					continue
				}
				x := words(p, n, 6)
				want, e := line(p, x, neg, inv)
				if e != api.OK {
					t.Fatalf("dft has error %d of %d words by %d", e, n, p)
				}
				checkSame(t, "Do", []api.Axis{a}, mustDo(t, p, []api.Axis{a}, inv, x), want)
				checkSame(t, "Axis", []api.Axis{a}, mustAxis(t, p, []api.Axis{a}, 0, inv, x), want)
			}
		}
	})
}

// P7.2, P7.3: an axis of length 1, wherever it is put in, changes no word.
func TestLengthOne(t *testing.T) {
	eachKind(t, func(t *testing.T, p uint64, inv bool) {
		for _, dims := range shapes(p) {
			if len(dims) == api.MaxAxes {
				continue
			}
			for _, axes := range signs(dims...) {
				x := words(p, product(axes), 7)
				y := mustDo(t, p, axes, inv, x)
				for at := range len(axes) + 1 {
					for _, neg := range []bool{false, true} {
						longer := slices.Insert(slices.Clone(axes), at, api.Axis{N: 1, Neg: neg})
						checkSame(t, "Axis of length 1", longer, mustAxis(t, p, longer, at, inv, x), x)
						checkSame(t, "Do with an axis of length 1", longer, mustDo(t, p, longer, inv, x), y)
					}
				}
			}
		}
	})
}

// P7.4: there and back, and back and there, along each axis and along all.
func TestThereAndBack(t *testing.T) {
	eachKind(t, func(t *testing.T, p uint64, inv bool) {
		for _, dims := range shapes(p) {
			for _, axes := range signs(dims...) {
				for _, x := range ordinary(p, product(axes)) {
					checkSame(t, "Do undone", axes, mustDo(t, p, axes, !inv, mustDo(t, p, axes, inv, x)), x)
					for axis := range axes {
						checkSame(t, "Axis undone", axes, mustAxis(t, p, axes, axis, !inv, mustAxis(t, p, axes, axis, inv, x)), x)
					}
				}
			}
		}
	})
}

// P7.4: as many words as there may be.
func TestThereAndBackOf4096(t *testing.T) {
	eachKind(t, func(t *testing.T, p uint64, inv bool) {
		for _, axes := range [][]api.Axis{{{N: 4096}}, {{N: 64, Neg: true}, {N: 64}}, {{N: 8}, {N: 8, Neg: true}, {N: 8}, {N: 8, Neg: true}}} {
			x := words(p, 4096, 8)
			checkSame(t, "Do undone", axes, mustDo(t, p, axes, !inv, mustDo(t, p, axes, inv, x)), x)
		}
	})
}

// orders are all orders of the numbers 0 to n less 1.
func orders(n int) [][]int {
	if n == 0 {
		return [][]int{nil}
	}
	var l [][]int
	for _, shorter := range orders(n - 1) {
		for at := range n {
			l = append(l, slices.Insert(slices.Clone(shorter), at, n-1))
		}
	}
	return l
}

// P7.3, P7.4: Do is Axis of each axis, in whatever order they are gone through.
func TestAnyOrder(t *testing.T) {
	eachKind(t, func(t *testing.T, p uint64, inv bool) {
		for _, dims := range shapes(p) {
			for _, axes := range signs(dims...) {
				x := words(p, product(axes), 9)
				want := mustDo(t, p, axes, inv, x)
				for _, order := range orders(len(axes)) {
					y := x
					for _, axis := range order {
						y = mustAxis(t, p, axes, axis, inv, y)
					}
					checkSame(t, fmt.Sprint("axes gone through as ", order), axes, y, want)
				}
			}
		}
	})
}

// transforms are the calls that tell words.
func transforms(p uint64, inv bool) map[string]func(axes []api.Axis, x []uint64) ([]uint64, api.Errno) {
	return map[string]func(axes []api.Axis, x []uint64) ([]uint64, api.Errno){
		"Do":   func(axes []api.Axis, x []uint64) ([]uint64, api.Errno) { return Do(p, axes, inv, x) },
		"Axis": func(axes []api.Axis, x []uint64) ([]uint64, api.Errno) { return Axis(p, axes, 0, inv, x) },
		"Axis of the last": func(axes []api.Axis, x []uint64) ([]uint64, api.Errno) {
			return Axis(p, axes, len(axes)-1, inv, x)
		},
	}
}

// checkLeft tells whether axes and words are as they were.
func checkLeft(t *testing.T, what string, axes, keptAxes []api.Axis, x, kept []uint64) {
	t.Helper()
	checkSame(t, what+" leaves its words", keptAxes, x, kept)
	if !slices.Equal(axes, keptAxes) {
		t.Errorf("%s leaves axes %v, they were %v", what, axes, keptAxes)
	}
}

// P7.2, P7.3: what is handed in stays as it was, behind its end too; what is told is new at each call.
func TestWhatIsToldIsNew(t *testing.T) {
	eachKind(t, func(t *testing.T, p uint64, inv bool) {
		for _, dims := range [][]int{{1}, {1, 1}, {1, 1, 1, 1}, {4}, {1, 4}, {4, 1}, {2, 4}, {2, 1, 4}, {2, 4, 2, 4}} {
			for name, call := range transforms(p, inv) {
				wholeAxes := append(plain(dims...), api.Axis{N: 3}, api.Axis{N: -1, Neg: true})
				axes := wholeAxes[:len(dims)]
				n := product(axes)
				whole := words(p, 2*n, 11)
				keptAxes, kept := slices.Clone(wholeAxes), slices.Clone(whole)
				first, e := call(axes, whole[:n])
				second, f := call(axes, whole[:n])
				if e != api.OK || f != api.OK {
					t.Fatalf("%s(%d, %v, %v): errors %d, %d", name, p, axes, inv, e, f)
				}
				checkLeft(t, name, wholeAxes, keptAxes, whole, kept)
				checkSame(t, name+" once more", axes, second, first)
				told := slices.Clone(first)
				for i := range second {
					second[i]++
				}
				checkSame(t, name+", the other answer written into", axes, first, told)
				checkLeft(t, name+", its answer written into", wholeAxes, keptAxes, whole, kept)
				clear(whole)
				clear(wholeAxes)
				checkSame(t, name+", its words written into", keptAxes, first, told)
			}
		}
	})
}

// P7.1, P7.2, P7.3: Check, and calls that tell an error, leave what is handed in as it was too.
func TestErrorsLeaveTheWords(t *testing.T) {
	eachKind(t, func(t *testing.T, p uint64, inv bool) {
		for _, dims := range [][]int{{0}, {-1, 2}, {7}, {9}, {2, 4}, {4, 2}, {2, 2, 2, 2}, {1, 1, 1, 1, 1}} {
			for _, many := range []int{1, 8, 15, 16} {
				axes := plain(dims...)
				axes[0].Neg = true
				x := words(p, many, 12)
				x[many-1] = math.MaxUint64
				keptAxes, kept := slices.Clone(axes), slices.Clone(x)
				Check(p, axes)
				for _, call := range transforms(p, inv) {
					call(axes, x)
				}
				Axis(p, axes, -1, inv, x)
				checkLeft(t, "an error", axes, keptAxes, x, kept)
			}
		}
	})
}
