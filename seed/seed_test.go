package seed

import (
	"fmt"
	"math"
	"math/bits"
	"slices"
	"testing"

	"bracken/api"
	"bracken/geom"
	"bracken/grid"
	"bracken/shape"
)

func primes() []uint64 { return []uint64{api.P0, api.P1, api.P2} }

// strangers are no primes of the document: 0, neighbours of its primes, products, and other primes.
func strangers() []uint64 {
	l := []uint64{0, 1, 2, 3, 4, 5, 7, 17, 257, 65537, 1 << 32, 1 << 63, math.MaxUint64, api.P1 * api.P2, 2 * api.P1, 469762049}
	for _, p := range primes() {
		l = append(l, p-1, p+1)
	}
	return l
}

// mul, add and pow count by p without the layers below, so that a fault of theirs would be seen too.
func mul(p, a, b uint64) uint64 {
	high, low := bits.Mul64(a, b)
	_, rest := bits.Div64(high%p, low, p)
	return rest
}

func add(p, a, b uint64) uint64 {
	low, carry := bits.Add64(a, b, 0)
	_, rest := bits.Div64(carry%p, low, p)
	return rest
}

func pow(p, a, n uint64) uint64 {
	product := uint64(1)
	for ; n > 0; n /= 2 {
		if n%2 == 1 {
			product = mul(p, product, a)
		}
		a = mul(p, a, a)
	}
	return product
}

// generator is what the document writes out.
func generator(p uint64) uint64 {
	switch p {
	case api.P0:
		return 7
	case api.P1:
		return 3
	}
	return 31
}

// order is that of the root of an axis, by the words of the document.
func order(a api.Axis) uint64 {
	if a.Neg {
		return 2 * uint64(a.N)
	}
	return uint64(a.N)
}

// wantUnit are the words of the transform of word i of an axis alone, by the words of the document; of what is not 0 the power p less 2 undoes it.
func wantUnit(p uint64, a api.Axis, inv bool, i int) []uint64 {
	w := pow(p, generator(p), (p-1)/order(a))
	by := uint64(1)
	if inv {
		w, by = pow(p, w, p-2), pow(p, uint64(a.N), p-2)
	}
	l := make([]uint64, a.N)
	for to := range l {
		j, k := i, to
		if inv {
			j, k = to, i
		}
		exponent := j * k
		if a.Neg {
			exponent = j * (2*k + 1)
		}
		l[to] = mul(p, by, pow(p, w, uint64(exponent)))
	}
	return l
}

// wantEval is the sum of words times powers of z, term by term.
func wantEval(p uint64, l []uint64, z uint64) uint64 {
	total, power := uint64(0), uint64(1)
	for _, a := range l {
		total = add(p, total, mul(p, a, power))
		power = mul(p, power, z)
	}
	return total
}

// points are numbers for z, r and seeds, below p and above.
func points(p uint64) []uint64 {
	return []uint64{0, 1, 2, 3, 1000000007, 1<<32 - 1, 1 << 32, p/2 + 1, p - 2, p - 1, p, p + 1, p + 2, 1 << 63, math.MaxUint64 - 1, math.MaxUint64, 0x9e3779b97f4a7c15}
}

// plain are axes of these lengths, none of them Neg.
func plain(dims ...int) []api.Axis {
	l := make([]api.Axis, len(dims))
	for i, d := range dims {
		l[i].N = d
	}
	return l
}

// product is how many words axes have that may be.
func product(axes []api.Axis) int {
	n := 1
	for _, a := range axes {
		n *= a.N
	}
	return n
}

// signs are axes of these lengths, with each of them Neg and not, side by side.
func signs(dims ...int) [][]api.Axis {
	l := [][]api.Axis{plain(dims...)}
	for i := range dims {
		for _, axes := range slices.Clone(l) {
			other := slices.Clone(axes)
			other[i].Neg = true
			l = append(l, other)
		}
	}
	return l
}

// shapes are lengths of axes that may be by p: one to four of them, of length 1 at each place; 3 and 5 divide P0 and P2 less 1, once.
func shapes(p uint64) [][]int {
	l := [][]int{
		{1}, {2}, {4}, {8}, {32}, {1, 1}, {2, 2}, {2, 4}, {4, 2}, {1, 8}, {8, 1}, {16, 8},
		{1, 1, 1}, {2, 2, 2}, {4, 1, 2}, {1, 4, 2}, {4, 2, 1}, {2, 4, 8}, {8, 4, 2},
		{1, 1, 1, 1}, {2, 2, 2, 2}, {1, 4, 1, 2}, {4, 2, 1, 2}, {1, 1, 1, 4}, {4, 1, 1, 1}, {2, 4, 2, 8},
	}
	if p != api.P1 {
		l = append(l, [][]int{{3}, {5}, {15}, {60}, {2, 3}, {3, 2}, {5, 3}, {3, 3}, {6, 10}, {2, 3, 4}, {3, 5, 2}, {2, 3, 1, 5}, {3, 2, 5, 4}}...)
	}
	return l
}

// sizes are lengths of an axis that may be by p.
func sizes(p uint64) []int {
	l := []int{1, 2, 4, 8, 16, 32, 64}
	if p != api.P1 {
		l = append(l, 3, 5, 6, 10, 12, 15, 20, 24, 30, 60)
	}
	return l
}

// words are n numbers of p of all lengths, others for each salt; 0 and p less 1 are among them.
func words(p uint64, n int, salt uint64) []uint64 {
	l := make([]uint64, n)
	state := salt*2 + 1
	for i := range l {
		state = state*6364136223846793005 + 1442695040888963407
		l[i] = (state ^ state>>29) % p
		switch state >> 60 {
		case 0:
			l[i] = 0
		case 1:
			l[i] = p - 1
		case 2:
			l[i] %= 10
		}
	}
	return l
}

// unit is 0 at all of n places, but 1 at place i.
func unit(n, i int) []uint64 {
	l := make([]uint64, n)
	l[i] = 1
	return l
}

// spread are the numbers whose sum with powers of r is the product of r less each of the roots.
func spread(p uint64, roots ...uint64) []uint64 {
	l := []uint64{1}
	for _, root := range roots {
		next := make([]uint64, len(l)+1)
		for k, a := range l {
			next[k+1] = add(p, next[k+1], a)
			next[k] = add(p, next[k], mul(p, a, p-root%p))
		}
		l = next
	}
	return l
}

// moved are words with what is told added to them, from place at on.
func moved(p uint64, y []uint64, at int, by ...uint64) []uint64 {
	l := slices.Clone(y)
	for k, a := range by {
		l[at+k] = add(p, l[at+k], a)
	}
	return l
}

// eachKind runs a test of each prime, there and back, side by side.
func eachKind(t *testing.T, run func(t *testing.T, p uint64, inv bool)) {
	for _, p := range primes() {
		for _, inv := range []bool{false, true} {
			t.Run(fmt.Sprintf("%d/%v", p, inv), func(t *testing.T) {
				t.Parallel()
				run(t, p, inv)
			})
		}
	}
}

func mustDo(t *testing.T, p uint64, axes []api.Axis, inv bool, x []uint64) []uint64 {
	t.Helper()
	y, e := grid.Do(p, axes, inv, x)
	if e != api.OK {
		t.Fatalf("grid.Do(%d, %v, %v, %d words): error %d", p, axes, inv, len(x), e)
	}
	return y
}

func mustEval(t *testing.T, p uint64, y []uint64, r uint64) uint64 {
	t.Helper()
	a, e := geom.Eval(p, y, r)
	if e != api.OK {
		t.Fatalf("geom.Eval(%d, %d words, %d): error %d", p, len(y), r, e)
	}
	return a
}

func checkWeight(t *testing.T, p uint64, a api.Axis, inv bool, i int, z, want uint64) {
	t.Helper()
	if got, e := Weight(p, a, inv, i, z); got != want || e != api.OK {
		t.Errorf("Weight(%d, %v, %v, %d, %d) is %d, %d, want %d", p, a, inv, i, z, got, e, want)
	}
}

func checkWeightError(t *testing.T, p uint64, a api.Axis, i int, want api.Errno) {
	t.Helper()
	for _, inv := range []bool{false, true} {
		for _, z := range []uint64{0, 1, p, math.MaxUint64} {
			if got, e := Weight(p, a, inv, i, z); got != 0 || e != want {
				t.Fatalf("Weight(%d, %v, %v, %d, %d) is %d, %d, want %d", p, a, inv, i, z, got, e, want)
			}
		}
	}
}

func checkExpect(t *testing.T, p uint64, axes []api.Axis, inv bool, x []uint64, r, want uint64) {
	t.Helper()
	if got, e := Expect(p, axes, inv, x, r); got != want || e != api.OK {
		t.Errorf("Expect(%d, %v, %v, %d words, %d) is %d, %d, want %d", p, axes, inv, len(x), r, got, e, want)
	}
}

func checkTold(t *testing.T, p uint64, axes []api.Axis, inv bool, x, y, seeds []uint64, want bool) {
	t.Helper()
	if got, e := Check(p, axes, inv, x, y, seeds); got != want || e != api.OK {
		t.Errorf("Check(%d, %v, %v, seeds %d) is %v, %d, want %v", p, axes, inv, seeds, got, e, want)
	}
}

func checkCheckError(t *testing.T, p uint64, axes []api.Axis, x, y, seeds []uint64, want api.Errno) {
	t.Helper()
	for _, inv := range []bool{false, true} {
		if got, e := Check(p, axes, inv, x, y, seeds); got || e != want {
			t.Fatalf("Check(%d, %v, %v, %d words, %d words, %d seeds) is %v, %d, want %d", p, axes[:min(len(axes), 6)], inv, len(x), len(y), len(seeds), got, e, want)
		}
	}
}

// checkErrors asks Expect and Check; what is wrong with y and with seeds is told behind what is wrong with x.
func checkErrors(t *testing.T, p uint64, axes []api.Axis, x []uint64, want api.Errno) {
	t.Helper()
	for _, inv := range []bool{false, true} {
		for _, r := range []uint64{0, 1, p, math.MaxUint64} {
			if got, e := Expect(p, axes, inv, x, r); got != 0 || e != want {
				t.Fatalf("Expect(%d, %v, %v, %d words, %d) is %d, %d, want %d", p, axes[:min(len(axes), 6)], inv, len(x), r, got, e, want)
			}
		}
	}
	longer := make([]uint64, len(x)+1)
	for _, y := range [][]uint64{x, nil, longer, slices.Repeat([]uint64{p}, len(x))} {
		for _, seeds := range [][]uint64{{1}, {1, 2, 3, 4}, nil, make([]uint64, 5)} {
			checkCheckError(t, p, axes, x, y, seeds, want)
		}
	}
}

// P9.1
func TestWeightWrittenOut(t *testing.T) {
	for _, x := range []struct {
		p    uint64
		a    api.Axis
		inv  bool
		i    int
		z    uint64
		want uint64
	}{
		{api.P1, api.Axis{N: 2}, false, 0, 10, 11},
		{api.P1, api.Axis{N: 2}, false, 1, 10, 998244344},
		{api.P1, api.Axis{N: 2}, false, 1, 998244363, 998244344},
		{api.P1, api.Axis{N: 4}, false, 0, 10, 1111},
		{api.P1, api.Axis{N: 4}, false, 2, 10, 998243444},
		{api.P1, api.Axis{N: 2}, true, 0, 9, 5},
		{api.P1, api.Axis{N: 2}, true, 1, 9, 998244349},
		{api.P1, api.Axis{N: 2, Neg: true}, false, 0, 10, 11},
		{api.P1, api.Axis{N: 2, Neg: true}, false, 1, 0, 911660635},
		{api.P1, api.Axis{N: 2, Neg: true}, false, 1, 1, 0},
		{api.P1, api.Axis{N: 2, Neg: true}, false, 1, 998244352, 825076917},
		{api.P1, api.Axis{N: 2, Neg: true}, true, 0, 2, 585705895},
		{api.P1, api.Axis{N: 2, Neg: true}, true, 1, 2, 412538459},
		{api.P2, api.Axis{N: 2}, false, 1, 9, 2013265913},
		{api.P0, api.Axis{N: 2}, false, 1, 9, 18446744069414584313},
		{api.P0, api.Axis{N: 2}, false, 0, math.MaxUint64, 4294967295},
	} {
		checkWeight(t, x.p, x.a, x.inv, x.i, x.z, x.want)
	}
}

// P9.1: the one word of an axis of length 1 stays what it is; word 1 of an axis of 2 has the weight 1 less z.
func TestWeightOfOneWord(t *testing.T) {
	for _, p := range primes() {
		for _, z := range points(p) {
			for _, inv := range []bool{false, true} {
				checkWeight(t, p, api.Axis{N: 1}, inv, 0, z, 1)
				checkWeight(t, p, api.Axis{N: 1, Neg: true}, inv, 0, z, 1)
			}
			checkWeight(t, p, api.Axis{N: 2}, false, 1, z, add(p, 1, p-z%p))
		}
	}
}

// P9.1: each word of an axis, against the definition word for word.
func TestWeightByDefinition(t *testing.T) {
	eachKind(t, func(t *testing.T, p uint64, inv bool) {
		for _, n := range sizes(p) {
			for _, neg := range []bool{false, true} {
				a := api.Axis{N: n, Neg: neg}
				for i := range n {
					y := wantUnit(p, a, inv, i)
					for _, z := range points(p) {
						checkWeight(t, p, a, inv, i, z, wantEval(p, y, z))
					}
				}
			}
		}
	})
}

// P9.1: as the document has it, by grid.Do and geom.Eval.
func TestWeightByTheLayersBelow(t *testing.T) {
	eachKind(t, func(t *testing.T, p uint64, inv bool) {
		for _, n := range sizes(p) {
			for _, neg := range []bool{false, true} {
				a := api.Axis{N: n, Neg: neg}
				for i := range n {
					y := mustDo(t, p, []api.Axis{a}, inv, unit(n, i))
					for _, z := range points(p) {
						checkWeight(t, p, a, inv, i, z, mustEval(t, p, y, z))
					}
				}
			}
		}
	})
}

// P9.1: some words of great axes, the first, the last, and those around the middle among them.
func TestWeightOfGreatAxes(t *testing.T) {
	eachKind(t, func(t *testing.T, p uint64, inv bool) {
		great := []int{1024, 4096}
		if p != api.P1 {
			great = append(great, 3840, 960)
		}
		for _, n := range great {
			for _, neg := range []bool{false, true} {
				a := api.Axis{N: n, Neg: neg}
				for _, i := range []int{0, 1, 2, 3, n/2 - 1, n / 2, n/2 + 1, n - 2, n - 1, n / 3} {
					y := wantUnit(p, a, inv, i)
					for _, z := range points(p) {
						checkWeight(t, p, a, inv, i, z, wantEval(p, y, z))
					}
				}
			}
		}
	})
}

// P9.1: what is asked at the root itself, or what undoes it, is where all powers are 1.
func TestWeightWhereAllPowersAreOne(t *testing.T) {
	for _, p := range primes() {
		for _, n := range []int{2, 4, 64, 4096} {
			w := pow(p, generator(p), (p-1)/uint64(n))
			back := pow(p, w, p-2)
			checkWeight(t, p, api.Axis{N: n}, false, 1, back, uint64(n))
			checkWeight(t, p, api.Axis{N: n}, true, 1, w, 1)
			checkWeight(t, p, api.Axis{N: n}, false, n-1, w, uint64(n))
			checkWeight(t, p, api.Axis{N: n}, true, n-1, back, 1)
			if n > 2 {
				checkWeight(t, p, api.Axis{N: n}, false, 1, w, 0)
				checkWeight(t, p, api.Axis{N: n}, true, 1, back, 0)
			}
		}
	}
}

// P9.1
func TestWeightOfNoSuchWord(t *testing.T) {
	for _, p := range primes() {
		for _, n := range []int{1, 2, 4, 64, 4096} {
			for _, i := range []int{-1, -2, -n, -n - 1, n, n + 1, 2 * n, 1 << 32, 1<<32 + 1, math.MaxInt - 1, math.MaxInt, math.MinInt, math.MinInt + 1} {
				checkWeightError(t, p, api.Axis{N: n}, i, api.ErrArg)
				checkWeightError(t, p, api.Axis{N: n, Neg: true}, i, api.ErrArg)
			}
		}
	}
}

// places are words that there are, and such as there are not.
func places() []int {
	return []int{0, 1, 2, -1, 7, 8, 4095, 4096, 5000, math.MaxInt, math.MinInt}
}

// P9.1: what is wrong with the axis is told whatever i is.
func TestWeightOfAWrongAxis(t *testing.T) {
	for _, i := range places() {
		for _, neg := range []bool{false, true} {
			for _, p := range strangers() {
				for _, n := range []int{1, 2, 7, 9, 0, -1, 4097, math.MaxInt, math.MinInt} {
					checkWeightError(t, p, api.Axis{N: n, Neg: neg}, i, api.ErrPrime)
				}
			}
			for _, p := range primes() {
				for _, n := range []int{0, -1, -2, -7, -4096, math.MinInt, math.MinInt + 1, math.MaxInt, 4097, 4100, 8192, 1 << 32, 1<<32 + 2, 1 << 62} {
					checkWeightError(t, p, api.Axis{N: n, Neg: neg}, i, api.ErrDims)
				}
				for _, n := range []int{7, 11, 14, 49, 4095, 4094, 21, 63, 77} {
					checkWeightError(t, p, api.Axis{N: n, Neg: neg}, i, api.ErrSize)
				}
			}
			for _, n := range []int{3, 5, 6, 9, 15, 25, 3840} {
				checkWeightError(t, api.P1, api.Axis{N: n, Neg: neg}, i, api.ErrOrder)
			}
			for _, n := range []int{9, 25, 18, 75, 4050} {
				checkWeightError(t, api.P2, api.Axis{N: n, Neg: neg}, i, api.ErrOrder)
				checkWeightError(t, api.P0, api.Axis{N: n, Neg: neg}, i, api.ErrOrder)
			}
		}
	}
}

// P9.2: of axes of 2 and 2 the words 1, 0, 0, 0 are 1, 1, 1, 1, and the transform of 3, 5 is 8 and the prime less 2.
func TestExpectWrittenOut(t *testing.T) {
	for _, p := range primes() {
		checkExpect(t, p, plain(2, 2), false, []uint64{1, 0, 0, 0}, 10, 1111%p)
		checkExpect(t, p, plain(2), false, []uint64{3, 5}, 10, p-12)
		checkExpect(t, p, plain(2), false, []uint64{3, 5}, p+10, p-12)
		checkExpect(t, p, plain(2), false, []uint64{3, 5}, 0, 8)
		checkExpect(t, p, plain(2), false, []uint64{3, 5}, 4, 0)
		checkExpect(t, p, plain(2), true, []uint64{8, p - 2}, 10, 53)
		checkExpect(t, p, plain(2, 1), true, []uint64{8, p - 2}, 10, 53)
		checkExpect(t, p, plain(1, 2), true, []uint64{8, p - 2}, 10, 53)
		checkExpect(t, p, plain(2, 2), false, []uint64{1, 2, 3, 4}, 10, add(p, 10, add(p, p-20, p-400)))
		checkExpect(t, p, plain(1, 1, 1, 1), false, []uint64{p - 1}, 10, p-1)
	}
}

// kinds are lists of n words: nothing, all the greatest, single ones, and mixed ones.
func kinds(p uint64, n int) [][]uint64 {
	return [][]uint64{
		make([]uint64, n),
		slices.Repeat([]uint64{p - 1}, n),
		unit(n, 0),
		unit(n, n-1),
		words(p, n, 1),
	}
}

// P9.2: what geom.Eval tells of grid.Do.
func TestExpectByTheLayersBelow(t *testing.T) {
	eachKind(t, func(t *testing.T, p uint64, inv bool) {
		for _, dims := range shapes(p) {
			for _, axes := range signs(dims...) {
				for _, x := range kinds(p, product(axes)) {
					y := mustDo(t, p, axes, inv, x)
					for _, r := range points(p) {
						checkExpect(t, p, axes, inv, x, r, wantEval(p, y, r))
						checkExpect(t, p, axes, inv, x, r, mustEval(t, p, y, r))
					}
				}
			}
		}
	})
}

// weighed is the sum of all words times the product of their weights, axis by axis.
func weighed(t *testing.T, p uint64, axes []api.Axis, inv bool, x []uint64, r uint64) uint64 {
	t.Helper()
	dims := grid.Dims(axes)
	total := uint64(0)
	for place, word := range x {
		c, e := shape.Coord(dims, place)
		if e != api.OK {
			t.Fatalf("shape.Coord(%v, %d): error %d", dims, place, e)
		}
		for axis, a := range axes {
			inner, e := shape.Inner(dims, axis)
			if e != api.OK {
				t.Fatalf("shape.Inner(%v, %d): error %d", dims, axis, e)
			}
			weight, e := Weight(p, a, inv, c[axis], pow(p, r, uint64(inner)))
			if e != api.OK {
				t.Fatalf("Weight(%d, %v, %v, %d): error %d", p, a, inv, c[axis], e)
			}
			word = mul(p, word, weight)
		}
		total = add(p, total, word)
	}
	return total
}

// P9.2
func TestExpectByWeights(t *testing.T) {
	eachKind(t, func(t *testing.T, p uint64, inv bool) {
		for _, dims := range shapes(p) {
			for _, axes := range signs(dims...) {
				x := words(p, product(axes), 2)
				for _, r := range []uint64{0, 1, 3, p - 1, p + 3, math.MaxUint64} {
					checkExpect(t, p, axes, inv, x, r, weighed(t, p, axes, inv, x, r))
				}
			}
		}
	})
}

// greatShapes have as many words as may be, or nearly so.
func greatShapes(p uint64) [][]api.Axis {
	l := [][]api.Axis{
		{{N: 4096}}, {{N: 4096, Neg: true}}, {{N: 64}, {N: 64, Neg: true}}, {{N: 8, Neg: true}, {N: 8}, {N: 8}, {N: 8, Neg: true}},
		{{N: 1}, {N: 2048}, {N: 2}}, {{N: 2, Neg: true}, {N: 1}, {N: 1, Neg: true}, {N: 2048}},
	}
	if p != api.P1 {
		l = append(l, []api.Axis{{N: 3840, Neg: true}}, []api.Axis{{N: 15}, {N: 16}, {N: 16, Neg: true}}, []api.Axis{{N: 60}, {N: 1}, {N: 60}, {N: 1}})
	}
	return l
}

// P9.2, P9.3
func TestGreatShapes(t *testing.T) {
	eachKind(t, func(t *testing.T, p uint64, inv bool) {
		for _, axes := range greatShapes(p) {
			x := words(p, product(axes), 3)
			y := mustDo(t, p, axes, inv, x)
			for _, r := range points(p) {
				checkExpect(t, p, axes, inv, x, r, wantEval(p, y, r))
			}
			checkTold(t, p, axes, inv, x, y, []uint64{0, p - 1, math.MaxUint64, 12345}, true)
			last := len(y) - 1
			checkTold(t, p, axes, inv, x, moved(p, y, last, 1), []uint64{12345}, false)
			checkTold(t, p, axes, inv, x, moved(p, y, last, 1), []uint64{0}, true)
			y[last] = p
			checkTold(t, p, axes, inv, x, y, []uint64{0}, false)
		}
	})
}

// P9.2, P9.3: p that is no prime is told whatever else is wrong.
func TestNoPrime(t *testing.T) {
	for _, p := range strangers() {
		for _, axes := range [][]api.Axis{nil, plain(1), plain(2), {{N: 2, Neg: true}}, plain(2, 2), plain(0), plain(-1), plain(7), plain(9), plain(4097), plain(64, 65), plain(1, 1, 1, 1, 1), plain(math.MaxInt, math.MinInt)} {
			for _, x := range [][]uint64{nil, {0}, {0, 1}, {p, p}, {1, 2, 3, 4}, {math.MaxUint64}} {
				checkErrors(t, p, axes, x, api.ErrPrime)
			}
		}
	}
}

// P9.2, P9.3: what is wrong with axes is told ahead of what is wrong with words.
func TestWrongAxes(t *testing.T) {
	some := [][]uint64{nil, {0}, {0, 1}, {1, 2, 3, 4}, {math.MaxUint64}, make([]uint64, 7), make([]uint64, 9), make([]uint64, 4096)}
	for _, p := range primes() {
		for _, x := range some {
			for _, axes := range [][]api.Axis{nil, {}, plain(1, 1, 1, 1, 1), plain(0), plain(-1), plain(2, 0), plain(0, 2), plain(7, 0), plain(9, 0), plain(4097), plain(64, 65), plain(8, 8, 8, 9), plain(math.MaxInt), plain(math.MinInt), plain(math.MaxInt, 2), plain(1<<32, 1<<32), plain(1, 1, 1, -1), slices.Repeat(plain(2), 1000)} {
				checkErrors(t, p, axes, x, api.ErrDims)
			}
			for _, axes := range [][]api.Axis{plain(7), plain(2, 7), plain(7, 2), plain(9, 7), plain(3, 7), plain(1, 1, 1, 11), plain(7, 9), {{N: 7, Neg: true}}} {
				checkErrors(t, p, axes, x, api.ErrSize)
			}
			for _, axes := range [][]api.Axis{plain(9), plain(2, 9), plain(9, 2), plain(1, 1, 1, 25), {{N: 9, Neg: true}}} {
				checkErrors(t, p, axes, x, api.ErrOrder)
			}
		}
	}
	checkErrors(t, api.P1, plain(3), []uint64{1, 2, 3}, api.ErrOrder)
	checkErrors(t, api.P1, plain(2, 5), make([]uint64, 10), api.ErrOrder)
}

// P9.2, P9.3: too few words and too many, ahead of words that are no numbers.
func TestWrongLengthOfX(t *testing.T) {
	for _, p := range primes() {
		for _, axes := range [][]api.Axis{plain(1), plain(2), plain(4, 2), {{N: 2, Neg: true}, {N: 1}}, plain(2, 2, 2, 2), plain(4096)} {
			n := product(axes)
			for _, many := range []int{0, 1, 2, n - 1, n + 1, 2 * n, 65537} {
				if many == n {
					continue
				}
				checkErrors(t, p, axes, make([]uint64, many), api.ErrLen)
				checkErrors(t, p, axes, slices.Repeat([]uint64{p}, many), api.ErrLen)
			}
		}
	}
}

// P9.2, P9.3: a word at each place that is no number of p.
func TestWrongWordsOfX(t *testing.T) {
	for _, p := range primes() {
		for _, axes := range [][]api.Axis{plain(1), plain(2), plain(4, 2), {{N: 2, Neg: true}, {N: 4}}, plain(2, 1, 2, 2)} {
			n := product(axes)
			for place := range n {
				for _, wrong := range []uint64{p, p + 1, math.MaxUint64} {
					x := make([]uint64, n)
					x[place] = wrong
					checkErrors(t, p, axes, x, api.ErrWord)
				}
			}
		}
	}
}

// P9.3: y of another length, ahead of wrong seeds, and whatever its words are.
func TestWrongLengthOfY(t *testing.T) {
	for _, p := range primes() {
		for _, axes := range [][]api.Axis{plain(1), plain(2), plain(4, 2), {{N: 2, Neg: true}, {N: 1}}} {
			n := product(axes)
			for _, many := range []int{0, 1, n - 1, n + 1, 2 * n, 65537} {
				if many == n {
					continue
				}
				for _, seeds := range [][]uint64{{1}, {1, 2, 3, 4}, nil, {}, make([]uint64, 5), make([]uint64, 100)} {
					checkCheckError(t, p, axes, words(p, n, 4), make([]uint64, many), seeds, api.ErrLen)
					checkCheckError(t, p, axes, words(p, n, 4), slices.Repeat([]uint64{p}, many), seeds, api.ErrLen)
				}
			}
		}
	}
}

// P9.3: no seeds and too many, of the transform, of other words, and of such that are no numbers of p.
func TestWrongSeeds(t *testing.T) {
	eachKind(t, func(t *testing.T, p uint64, inv bool) {
		axes := []api.Axis{{N: 4}, {N: 2, Neg: true}}
		x := words(p, 8, 5)
		y := mustDo(t, p, axes, inv, x)
		for _, y := range [][]uint64{y, moved(p, y, 0, 1), slices.Repeat([]uint64{math.MaxUint64}, 8)} {
			for _, seeds := range [][]uint64{nil, {}, {1, 2, 3, 4, 5}, {1, 1, 1, 1, 1}, {p, p, p, p, p, p}, make([]uint64, 4096), make([]uint64, 65537)} {
				if got, e := Check(p, axes, inv, x, y, seeds); got || e != api.ErrSeeds {
					t.Errorf("Check of %d seeds is %v, %d", len(seeds), got, e)
				}
			}
		}
	})
}

// seedLists are one to four seeds, such as are told twice, and such as are at p or above.
func seedLists(p uint64) [][]uint64 {
	l := [][]uint64{{1, 2}, {2, 1}, {5, 5}, {7, p + 7}, {0, p}, {3, 3, 3}, {0, 1, p - 1}, {1, 2, 3, 4}, {4, 4, 4, 4}, {math.MaxUint64, p, p + 1, 0}, {0, 0, 0, 0}}
	for _, r := range points(p) {
		l = append(l, []uint64{r})
	}
	return l
}

// P9.3, P9.4: of the transform Check is true, whatever seeds there are.
func TestCheckOfTheTransform(t *testing.T) {
	eachKind(t, func(t *testing.T, p uint64, inv bool) {
		for _, dims := range shapes(p) {
			for _, axes := range signs(dims...) {
				x := words(p, product(axes), 6)
				y := mustDo(t, p, axes, inv, x)
				for _, seeds := range seedLists(p) {
					checkTold(t, p, axes, inv, x, y, seeds, true)
				}
			}
		}
	})
}

// P9.3: a word that differs, at each place, by whatever: at r the difference is a power of r, which is 0 of 0 alone, behind word 0.
func TestCheckOfOneOtherWord(t *testing.T) {
	eachKind(t, func(t *testing.T, p uint64, inv bool) {
		for _, axes := range [][]api.Axis{plain(1), plain(2), {{N: 4, Neg: true}}, {{N: 2}, {N: 4, Neg: true}}, {{N: 2}, {N: 2}, {N: 1, Neg: true}, {N: 2}}} {
			n := product(axes)
			x := words(p, n, 7)
			y := mustDo(t, p, axes, inv, x)
			for place := range n {
				for _, by := range []uint64{1, 2, p / 2, p - 1} {
					other := moved(p, y, place, by)
					for _, seeds := range seedLists(p) {
						blind := place > 0 && !slices.ContainsFunc(seeds, func(r uint64) bool { return r%p != 0 })
						checkTold(t, p, axes, inv, x, other, seeds, blind)
					}
				}
			}
		}
	})
}

// P9.3: words that differ in several places, by numbers that have these roots: as long as all seeds are roots, they tell nothing.
func TestCheckOfSeedsThatAreRoots(t *testing.T) {
	eachKind(t, func(t *testing.T, p uint64, inv bool) {
		axes := []api.Axis{{N: 4}, {N: 2, Neg: true}}
		x := words(p, 8, 8)
		y := mustDo(t, p, axes, inv, x)
		roots := []uint64{2, 3, p - 1, p / 2}
		for at := range 4 {
			other := moved(p, y, at, spread(p, roots...)...)
			for i, r := range roots {
				next := roots[(i+1)%4]
				for _, seeds := range [][]uint64{{r}, {r, r}, {r, next}, {next, r, r}, roots, {r % p, next % p, r, next}} {
					checkTold(t, p, axes, inv, x, other, seeds, true)
				}
				for _, seeds := range [][]uint64{{r, 4}, {4, r}, {r, next, 5}, {r, 5, next}, {2, 3, p - 1, 4}, {4, 3, p - 1, 2}, {2, 4, p - 1, 3}} {
					checkTold(t, p, axes, inv, x, other, seeds, false)
				}
			}
			checkTold(t, p, axes, inv, x, other, []uint64{0}, at > 0)
			checkTold(t, p, axes, inv, x, other, []uint64{2, 0}, at > 0)
		}
	})
}

// P9.3: a seed at p or above is what it is by p.
func TestCheckOfSeedsAboveP(t *testing.T) {
	eachKind(t, func(t *testing.T, p uint64, inv bool) {
		axes := plain(4)
		x := words(p, 4, 9)
		y := mustDo(t, p, axes, inv, x)
		other := moved(p, y, 0, spread(p, 2, 3, math.MaxUint64)...)
		checkTold(t, p, axes, inv, x, other, []uint64{p + 2}, true)
		checkTold(t, p, axes, inv, x, other, []uint64{p + 3, p + 2, 3, math.MaxUint64}, true)
		checkTold(t, p, axes, inv, x, other, []uint64{math.MaxUint64 % p}, true)
		checkTold(t, p, axes, inv, x, other, []uint64{p + 2, p}, false)
	})
}

// P9.3: with p added to it a word is the same by p, and no number of it: false, whatever the seeds.
func TestCheckOfWordsThatAreNoNumbers(t *testing.T) {
	eachKind(t, func(t *testing.T, p uint64, inv bool) {
		axes := []api.Axis{{N: 2}, {N: 4, Neg: true}}
		for place := range 8 {
			// By P0 a small word alone has room for p above it, so that the transform is made to begin with.
			want := words(p, 8, 10)
			want[place] = uint64(place)
			x := mustDo(t, p, axes, !inv, want)
			checkTold(t, p, axes, inv, x, want, []uint64{3}, true)
			want[place] += p
			for _, seeds := range seedLists(p) {
				checkTold(t, p, axes, inv, x, want, seeds, false)
			}
		}
		zero := make([]uint64, 8)
		checkTold(t, p, axes, inv, zero, slices.Repeat([]uint64{p}, 8), []uint64{0}, false)
	})
}

// P9.3: all seeds are asked, and all must agree.
func TestCheckOfEachSeed(t *testing.T) {
	eachKind(t, func(t *testing.T, p uint64, inv bool) {
		axes := plain(2, 4)
		x := words(p, 8, 11)
		other := moved(p, mustDo(t, p, axes, inv, x), 1, spread(p, 2, 3)...)
		for code := range 3 * 3 * 3 * 3 {
			options := []uint64{2, 3, 4}
			seeds := []uint64{options[code%3], options[code/3%3], options[code/9%3], options[code/27]}
			for many := range 4 {
				asked := seeds[:many+1]
				checkTold(t, p, axes, inv, x, other, asked, !slices.Contains(asked, 4))
			}
		}
	})
}

// passing are how many of the single seeds tell that y is the transform of x.
func passing(t *testing.T, p uint64, axes []api.Axis, inv bool, x, y, seeds []uint64) int {
	t.Helper()
	many := 0
	for _, r := range seeds {
		ok, e := Check(p, axes, inv, x, y, []uint64{r})
		if e != api.OK {
			t.Fatalf("Check(%d, %v, %v, seed %d): error %d", p, axes, inv, r, e)
		}
		if ok {
			many++
		}
	}
	return many
}

// P9.4: of other words fewer single seeds than there are words tell that they are the transform; of some there is just one fewer.
func TestFewerSeedsThanWords(t *testing.T) {
	eachKind(t, func(t *testing.T, p uint64, inv bool) {
		seeds := []uint64{p - 1, p - 2, p / 2, p/2 + 1}
		for r := range uint64(40) {
			seeds = append(seeds, r)
		}
		for _, axes := range [][]api.Axis{plain(1), plain(2), {{N: 2, Neg: true}, {N: 2}}, {{N: 8, Neg: true}}, plain(2, 2, 2, 2)} {
			n := product(axes)
			x := words(p, n, 12)
			y := mustDo(t, p, axes, inv, x)
			if got := passing(t, p, axes, inv, x, y, seeds); got != len(seeds) {
				t.Errorf("by %d, of %v, %d seeds tell the transform", p, axes, got)
			}
			for many := range n {
				other := moved(p, y, 0, spread(p, seeds[len(seeds)-many:]...)...)
				if got := passing(t, p, axes, inv, x, other, seeds); got != many {
					t.Errorf("by %d, of %v, %d seeds tell what has %d roots", p, axes, got, many)
				}
			}
			for salt := range uint64(20) {
				other := words(p, n, 100+salt)
				if got := passing(t, p, axes, inv, x, other, seeds); got >= n && !slices.Equal(other, y) {
					t.Errorf("by %d, of %v, %d seeds tell other words", p, axes, got)
				}
			}
		}
	})
}

// P9.3: the transform the other way is none, nor is that by other axes of as many words.
func TestCheckOfAnotherTransform(t *testing.T) {
	for _, p := range primes() {
		x := words(p, 16, 13)
		shapes := append(append(signs(2, 8), signs(4, 4)...), append(signs(16), signs(8, 2)...)...)
		for i, axes := range shapes {
			for _, inv := range []bool{false, true} {
				for j, other := range shapes {
					y := mustDo(t, p, other, inv, x)
					checkTold(t, p, axes, inv, x, y, []uint64{12345, 6789}, i == j)
					checkTold(t, p, axes, !inv, x, y, []uint64{12345, 6789}, false)
				}
			}
		}
	}
}

// R2: with and without an error, and behind the ends of the lists too.
func TestWhatIsHandedInStays(t *testing.T) {
	for _, p := range append(primes(), 7) {
		for _, inv := range []bool{false, true} {
			for _, many := range []int{7, 8, 9} {
				axes := []api.Axis{{N: 3}, {N: 4, Neg: true}, {N: 2}, {N: 7}}
				x, y, seeds := words(p, many+2, 14), words(p, many+2, 15), []uint64{p, 3, math.MaxUint64, p + 3, 9}
				wasAxes, wasX, wasY, wasSeeds := slices.Clone(axes), slices.Clone(x), slices.Clone(y), slices.Clone(seeds)
				Expect(p, axes[1:3], inv, x[1:many+1], math.MaxUint64)
				Check(p, axes[1:3], inv, x[1:many+1], y[1:many+1], seeds[1:4])
				Check(p, axes[1:3], inv, x[1:many+1], y[1:many+1], seeds)
				Check(p, axes, inv, x, y, seeds)
				if !slices.Equal(axes, wasAxes) || !slices.Equal(x, wasX) || !slices.Equal(y, wasY) || !slices.Equal(seeds, wasSeeds) {
					t.Errorf("by %d, %v, %d words: what was handed in was changed", p, inv, many)
				}
			}
		}
	}
}

// R5: nothing is kept from one call to the next.
func TestAskedAgain(t *testing.T) {
	for range 20 {
		for _, p := range primes() {
			x := []uint64{3, 5}
			checkExpect(t, p, plain(2), false, x, 10, p-12)
			checkTold(t, p, plain(2), false, x, []uint64{8, p - 2}, []uint64{10}, true)
			checkTold(t, p, plain(2), true, []uint64{8, p - 2}, x, []uint64{10}, true)
			checkTold(t, p, plain(2), false, x, []uint64{8, p - 3}, []uint64{10}, false)
			checkWeight(t, p, api.Axis{N: 2}, false, 1, 10, p-9)
			x[0] = 4
			checkExpect(t, p, plain(2), false, x, 10, p-1)
		}
	}
}
