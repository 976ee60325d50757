package step

import (
	"fmt"
	"math"
	"math/bits"
	"slices"
	"testing"

	"bracken/api"
	"bracken/code"
	"bracken/grid"
)

const greatest = math.MaxUint64

func primes() []uint64 { return []uint64{api.P0, api.P1, api.P2} }

func ways() []bool { return []bool{false, true} }

// strangers are no primes that are known: 0, neighbours of those that are, products, and other primes.
func strangers() []uint64 {
	l := []uint64{0, 1, 2, 3, 5, 6, 7, 17, 257, 65537, 1 << 63, greatest, api.P1 * api.P2, 469762049}
	for _, p := range primes() {
		l = append(l, p-1, p+1)
	}
	return l
}

// mul, add and pow count by p without the layers below, so that a fault of theirs would be seen too.
func mul(p, a, b uint64) uint64 {
	high, low := bits.Mul64(a, b)
	_, rest := bits.Div64(high%p, low, p)
	return rest
}

func add(p, a, b uint64) uint64 {
	low, carry := bits.Add64(a, b, 0)
	_, rest := bits.Div64(carry, low, p)
	return rest
}

func pow(p, a, n uint64) uint64 {
	product := uint64(1)
	for ; n > 0; n /= 2 {
		if n%2 == 1 {
			product = mul(p, product, a)
		}
		a = mul(p, a, a)
	}
	return product
}

// wantRoot is the root of order n, or what undoes it: of what is not 0 the power p less 2 does.
func wantRoot(p uint64, n int, inv bool) uint64 {
	generator := map[uint64]uint64{api.P0: 7, api.P1: 3, api.P2: 31}[p]
	w := pow(p, generator, (p-1)/uint64(n))
	if inv {
		w = pow(p, w, p-2)
	}
	return w
}

// rooted tells whether there is a root of order n by p.
func rooted(p uint64, n int) bool { return (p-1)%uint64(n) == 0 }

// stagesOf are the stages of some lengths, as they are by hand.
func stagesOf(n int) []api.Stage {
	return map[int][]api.Stage{
		1:    {},
		2:    {{R: 2, L: 1, M: 1}},
		3:    {{R: 3, L: 1, M: 1}},
		4:    {{R: 4, L: 1, M: 1}},
		5:    {{R: 5, L: 1, M: 1}},
		6:    {{R: 2, L: 1, M: 3}, {R: 3, L: 2, M: 1}},
		8:    {{R: 4, L: 1, M: 2}, {R: 2, L: 4, M: 1}},
		10:   {{R: 2, L: 1, M: 5}, {R: 5, L: 2, M: 1}},
		12:   {{R: 4, L: 1, M: 3}, {R: 3, L: 4, M: 1}},
		15:   {{R: 3, L: 1, M: 5}, {R: 5, L: 3, M: 1}},
		16:   {{R: 4, L: 1, M: 4}, {R: 4, L: 4, M: 1}},
		20:   {{R: 4, L: 1, M: 5}, {R: 5, L: 4, M: 1}},
		24:   {{R: 4, L: 1, M: 6}, {R: 2, L: 4, M: 3}, {R: 3, L: 8, M: 1}},
		30:   {{R: 2, L: 1, M: 15}, {R: 3, L: 2, M: 5}, {R: 5, L: 6, M: 1}},
		32:   {{R: 4, L: 1, M: 8}, {R: 4, L: 4, M: 2}, {R: 2, L: 16, M: 1}},
		60:   {{R: 4, L: 1, M: 15}, {R: 3, L: 4, M: 5}, {R: 5, L: 12, M: 1}},
		64:   {{R: 4, L: 1, M: 16}, {R: 4, L: 4, M: 4}, {R: 4, L: 16, M: 1}},
		120:  {{R: 4, L: 1, M: 30}, {R: 2, L: 4, M: 15}, {R: 3, L: 8, M: 5}, {R: 5, L: 24, M: 1}},
		1920: {{R: 4, L: 1, M: 480}, {R: 4, L: 4, M: 120}, {R: 4, L: 16, M: 30}, {R: 2, L: 64, M: 15}, {R: 3, L: 128, M: 5}, {R: 5, L: 384, M: 1}},
		4096: {{R: 4, L: 1, M: 1024}, {R: 4, L: 4, M: 256}, {R: 4, L: 16, M: 64}, {R: 4, L: 64, M: 16}, {R: 4, L: 256, M: 4}, {R: 4, L: 1024, M: 1}},
	}[n]
}

// twist is the twist of an axis.
func twist(axis int) api.Step { return api.Step{Axis: axis, Twist: true} }

// stagesAt are the stages of an axis, as steps.
func stagesAt(axes []api.Axis, axis int) []api.Step {
	var l []api.Step
	for _, s := range stagesOf(axes[axis].N) {
		l = append(l, api.Step{Axis: axis, Stage: s})
	}
	return l
}

// stepsOf are all steps that axes have: of each axis its twist, and its stages.
func stepsOf(axes []api.Axis) []api.Step {
	var l []api.Step
	for axis := range axes {
		l = append(append(l, twist(axis)), stagesAt(axes, axis)...)
	}
	return l
}

// plain are axes of these lengths, none of them Neg.
func plain(dims ...int) []api.Axis {
	l := make([]api.Axis, len(dims))
	for i, d := range dims {
		l[i].N = d
	}
	return l
}

// signs are axes of these lengths, with each of them Neg and not, side by side.
func signs(dims ...int) [][]api.Axis {
	l := [][]api.Axis{plain(dims...)}
	for i := range dims {
		for _, axes := range slices.Clone(l) {
			other := slices.Clone(axes)
			other[i].Neg = true
			l = append(l, other)
		}
	}
	return l
}

// product is how many words axes have that may be.
func product(axes []api.Axis) int {
	n := 1
	for _, a := range axes {
		n *= a.N
	}
	return n
}

// lengths are those of one axis that may be by p, short ones.
func lengths(p uint64) []int {
	if p == api.P1 {
		return []int{1, 2, 4, 8, 16, 32, 64}
	}
	return []int{1, 2, 3, 4, 5, 6, 8, 10, 12, 15, 16, 20, 24, 30, 32, 60, 64, 120}
}

// shapes are lengths of several axes that may be by p, with each length first, last and in the middle.
func shapes(p uint64) [][]int {
	l := [][]int{{1, 1}, {2, 4}, {8, 2}, {1, 16}, {16, 1}, {4, 4}, {2, 2, 2}, {2, 8, 4}, {4, 1, 8}, {8, 2, 1}, {2, 1, 4, 2}, {1, 4, 2, 8}, {1, 1, 1, 1}}
	if p != api.P1 {
		l = append(l, [][]int{{3, 2}, {2, 3}, {5, 3}, {6, 2}, {2, 6}, {12, 5}, {2, 6, 3}, {6, 4, 5}, {3, 5, 6}, {2, 3, 1, 5}, {3, 2, 6, 2}}...)
	}
	return l
}

// eachAxes goes through axes that may be by p: one of each length, and several.
func eachAxes(p uint64, do func(axes []api.Axis)) {
	dims := shapes(p)
	for _, n := range lengths(p) {
		dims = append(dims, []int{n})
	}
	for _, d := range dims {
		for _, axes := range signs(d...) {
			do(axes)
		}
	}
}

// eachStep goes through all steps of those axes.
func eachStep(p uint64, do func(axes []api.Axis, s api.Step)) {
	eachAxes(p, func(axes []api.Axis) {
		for _, s := range stepsOf(axes) {
			do(axes, s)
		}
	})
}

// eachKind runs a test of each prime, there and back, side by side.
func eachKind(t *testing.T, run func(t *testing.T, p uint64, inv bool)) {
	for _, p := range primes() {
		for _, inv := range ways() {
			t.Run(fmt.Sprintf("%d/%v", p, inv), func(t *testing.T) {
				t.Parallel()
				run(t, p, inv)
			})
		}
	}
}

// words are n numbers of p by a fixed rule, others for each salt; 0 and p less 1 are among them.
func words(p uint64, n int, salt uint64) []uint64 {
	l := make([]uint64, n)
	state := salt*2 + 1
	for i := range l {
		state = state*6364136223846793005 + 1442695040888963407
		l[i] = (state ^ state>>29) % p
		switch state >> 60 {
		case 0:
			l[i] = 0
		case 1:
			l[i] = p - 1
		case 2:
			l[i] %= 10
		}
	}
	return l
}

// with is l with another word in one place.
func with(l []uint64, at int, w uint64) []uint64 {
	other := slices.Clone(l)
	other[at] = w
	return other
}

// ordinary are lists of n words: nothing, all the greatest, single ones, and mixed ones.
func ordinary(p uint64, n int) [][]uint64 {
	return [][]uint64{
		make([]uint64, n),
		slices.Repeat([]uint64{p - 1}, n),
		with(make([]uint64, n), 0, 1),
		with(make([]uint64, n), n-1, p-1),
		with(slices.Repeat([]uint64{1}, n), n/2, 0),
		words(p, n, 1),
		words(p, n, 2),
	}
}

// wantTable goes by the document's words: each factor is a power by itself.
func wantTable(p uint64, axes []api.Axis, inv bool, s api.Step) []uint64 {
	a := axes[s.Axis]
	var l []uint64
	if s.Twist {
		for j := range a.N {
			f := uint64(1)
			if a.Neg {
				f = pow(p, wantRoot(p, 2*a.N, inv), uint64(j))
			}
			if inv {
				f = mul(p, f, pow(p, uint64(a.N), p-2))
			}
			l = append(l, f)
		}
		return l
	}
	w := wantRoot(p, s.Stage.R*s.Stage.M, inv)
	for a := range s.Stage.M {
		for u := range s.Stage.R {
			l = append(l, pow(p, w, uint64(a*u)))
		}
	}
	return l
}

// coords are the coordinates of all words in order of their places, the last one fastest.
func coords(axes []api.Axis) [][]int {
	if len(axes) == 0 {
		return [][]int{nil}
	}
	var l [][]int
	for _, c := range coords(axes[:len(axes)-1]) {
		for last := range axes[len(axes)-1].N {
			l = append(l, append(slices.Clone(c), last))
		}
	}
	return l
}

// linesOf are the lines of an axis, in order of their first places: a word opens a line, if its coordinate is 0, and else stands in that of its other coordinates.
func linesOf(axes []api.Axis, axis int) [][]int {
	var l [][]int
	at := map[string]int{}
	for place, c := range coords(axes) {
		others := fmt.Sprint(slices.Delete(slices.Clone(c), axis, axis+1))
		if c[axis] == 0 {
			at[others] = len(l)
			l = append(l, nil)
		}
		l[at[others]] = append(l[at[others]], place)
	}
	return l
}

// wantGroups goes by the document's words.
func wantGroups(axes []api.Axis, s api.Step) []api.Group {
	var l []api.Group
	if s.Twist {
		for place, c := range coords(axes) {
			l = append(l, api.Group{In: []int{place}, Fac: []int{c[s.Axis]}, Out: []int{place}})
		}
		return l
	}
	r, below, m := s.Stage.R, s.Stage.L, s.Stage.M
	for _, line := range linesOf(axes, s.Axis) {
		for a := range m {
			for b := range below {
				var g api.Group
				for t := range r {
					g.In = append(g.In, line[b+below*(a+m*t)])
				}
				for u := range r {
					g.Fac = append(g.Fac, a*r+u)
					g.Out = append(g.Out, line[b+below*(r*a+u)])
				}
				l = append(l, g)
			}
		}
	}
	return l
}

// wantDo is, of each group, the sum of all words by powers of the radix's root, and the factor.
func wantDo(p uint64, axes []api.Axis, inv bool, s api.Step, x []uint64) []uint64 {
	y := make([]uint64, len(x))
	table := wantTable(p, axes, inv, s)
	for _, g := range wantGroups(axes, s) {
		for u, out := range g.Out {
			word := uint64(0)
			for t, in := range g.In {
				by := uint64(1)
				if !s.Twist {
					by = pow(p, wantRoot(p, s.Stage.R, inv), uint64(t*u))
				}
				word = add(p, word, mul(p, x[in], by))
			}
			y[out] = mul(p, word, table[g.Fac[u]])
		}
	}
	return y
}

// wantSums are the sum of all words, and that of all words times their places, counted from 1.
func wantSums(p uint64, l []uint64) [2]uint64 {
	var sums [2]uint64
	for i, w := range l {
		sums[0] = add(p, sums[0], w)
		sums[1] = add(p, sums[1], mul(p, w, uint64(i)+1))
	}
	return sums
}

// sameGroups tells whether groups have the same places, one by one.
func sameGroups(l, m []api.Group) bool {
	return slices.EqualFunc(l, m, func(g, h api.Group) bool {
		return slices.Equal(g.In, h.In) && slices.Equal(g.Fac, h.Fac) && slices.Equal(g.Out, h.Out)
	})
}

func mustTable(t *testing.T, p uint64, axes []api.Axis, inv bool, s api.Step) []uint64 {
	t.Helper()
	l, e := Table(p, axes, inv, s)
	if e != api.OK {
		t.Fatalf("Table(%d, %v, %v, %v) has error %d", p, axes, inv, s, e)
	}
	return l
}

func mustGroups(t *testing.T, p uint64, axes []api.Axis, s api.Step) []api.Group {
	t.Helper()
	l, e := Groups(p, axes, s)
	if e != api.OK {
		t.Fatalf("Groups(%d, %v, %v) has error %d", p, axes, s, e)
	}
	return l
}

func mustDo(t *testing.T, p uint64, axes []api.Axis, inv bool, s api.Step, x []uint64) []uint64 {
	t.Helper()
	y, e := Do(p, axes, inv, s, x)
	if e != api.OK || len(y) != len(x) {
		t.Fatalf("Do(%d, %v, %v, %v, %d words): %d words, error %d", p, axes, inv, s, len(x), len(y), e)
	}
	return y
}

// mustAll does steps one after the other.
func mustAll(t *testing.T, p uint64, axes []api.Axis, inv bool, steps []api.Step, x []uint64) []uint64 {
	t.Helper()
	for _, s := range steps {
		x = mustDo(t, p, axes, inv, s, x)
	}
	return x
}

// checkSame tells the first word that differs, since there may be many.
func checkSame(t *testing.T, what string, got, want []uint64) {
	t.Helper()
	if len(got) != len(want) {
		t.Errorf("%s: %d words, want %d", what, len(got), len(want))
		return
	}
	for i := range got {
		if got[i] != want[i] {
			t.Errorf("%s: word %d is %d, want %d", what, i, got[i], want[i])
			return
		}
	}
}

// checkWords holds Do, and Predict, against the groups as the document words them.
func checkWords(t *testing.T, p uint64, axes []api.Axis, inv bool, s api.Step, x []uint64) {
	t.Helper()
	want := wantDo(p, axes, inv, s, x)
	checkSame(t, fmt.Sprint("Do ", p, axes, inv, s), mustDo(t, p, axes, inv, s, x), want)
	if got, e := Predict(p, axes, inv, s, x); got != wantSums(p, want) || e != api.OK {
		t.Errorf("Predict(%d, %v, %v, %v, %d words) is %v, %d, want %v", p, axes, inv, s, len(x), got, e, wantSums(p, want))
	}
}

func checkDoError(t *testing.T, p uint64, axes []api.Axis, s api.Step, x []uint64, want api.Errno) {
	t.Helper()
	for _, inv := range ways() {
		if y, e := Do(p, axes, inv, s, x); len(y) != 0 || e != want {
			t.Errorf("Do(%d, %v, %v, %v, %d words) is %d words, %d, want %d", p, axes[:min(len(axes), 6)], inv, s, len(x), len(y), e, want)
		}
		if sums, e := Predict(p, axes, inv, s, x); sums != [2]uint64{} || e != want {
			t.Errorf("Predict(%d, %v, %v, %v, %d words) is %v, %d, want %d", p, axes[:min(len(axes), 6)], inv, s, len(x), sums, e, want)
		}
	}
}

// checkError wants one error of all calls; words that are wrong too are told behind it.
func checkError(t *testing.T, p uint64, axes []api.Axis, s api.Step, want api.Errno) {
	t.Helper()
	if e := Check(p, axes, s); e != want {
		t.Errorf("Check(%d, %v, %v) is %d, want %d", p, axes[:min(len(axes), 6)], s, e, want)
	}
	for _, inv := range ways() {
		if l, e := Table(p, axes, inv, s); len(l) != 0 || e != want {
			t.Errorf("Table(%d, %v, %v, %v) is %d factors, %d, want %d", p, axes[:min(len(axes), 6)], inv, s, len(l), e, want)
		}
	}
	if l, e := Groups(p, axes, s); len(l) != 0 || e != want {
		t.Errorf("Groups(%d, %v, %v) is %d groups, %d, want %d", p, axes[:min(len(axes), 6)], s, len(l), e, want)
	}
	for _, x := range [][]uint64{nil, {0}, {greatest}, make([]uint64, 6), slices.Repeat([]uint64{greatest}, 6), make([]uint64, 4097)} {
		checkDoError(t, p, axes, s, x, want)
	}
}

// outside are numbers of axes that there are not, if there are many.
func outside(many int) []int {
	return []int{-1, -2, -many, -many - 1, math.MinInt, math.MinInt + 1, many, many + 1, 2*many + 4, 1 << 32, 1<<32 + many, math.MaxInt - 1, math.MaxInt}
}

// others are steps that axes of 2 and 6 do not have, each in its own way.
func others() []api.Step {
	return []api.Step{
		{}, {Axis: 1}, {Axis: 2}, {Axis: -1},
		{Axis: 0, Stage: api.Stage{R: 3, L: 2, M: 1}},
		{Axis: 1, Stage: api.Stage{R: 2, L: 1, M: 1}},
		{Axis: 1, Twist: true, Stage: api.Stage{R: 2, L: 1, M: 3}},
	}
}

// P16.1: each step that axes have may be, of each axis that there is.
func TestCheckOfSteps(t *testing.T) {
	for _, p := range primes() {
		eachStep(p, func(axes []api.Axis, s api.Step) {
			if e := Check(p, axes, s); e != api.OK {
				t.Errorf("Check(%d, %v, %v) is %d", p, axes, s, e)
			}
		})
	}
}

// P16.1: axes that may not be, whether or not the step might be of some.
func TestCheckOfAxes(t *testing.T) {
	for _, s := range append(others(), twist(0), twist(1), api.Step{Stage: api.Stage{R: 2, L: 1, M: 1}}) {
		for _, p := range strangers() {
			for _, axes := range [][]api.Axis{nil, plain(2, 6), plain(0), plain(7), plain(9), plain(4096, 4096), plain(1, 1, 1, 1, 1)} {
				checkError(t, p, axes, s, api.ErrPrime)
			}
		}
		for _, p := range primes() {
			for _, d := range [][]int{nil, {0}, {-1}, {math.MinInt}, {4097}, {8192}, {math.MaxInt}, {2, 0}, {0, 2}, {-2, -3}, {64, 65}, {4096, 2}, {1 << 32, 1 << 32}, {1, 1, 1, 1, 1}, {2, 2, 2, 2, 2}, {7, 0}, {9, 4096}} {
				checkError(t, p, plain(d...), s, api.ErrDims)
			}
			for _, d := range [][]int{{7}, {11}, {14}, {4095}, {2, 7}, {7, 2}, {9, 7}, {7, 9}, {1, 1, 1, 13}} {
				checkError(t, p, plain(d...), s, api.ErrSize)
			}
			for _, d := range [][]int{{9}, {25}, {27}, {2, 9}, {9, 2}, {75, 2}, {1, 1, 1, 18}} {
				checkError(t, p, plain(d...), s, api.ErrOrder)
			}
		}
		for _, d := range [][]int{{3}, {5}, {6}, {10}, {2, 3}, {3, 2}, {15, 4}, {2, 6}} {
			checkError(t, api.P1, plain(d...), s, api.ErrOrder)
		}
	}
}

// P16.1: an axis that is Neg is as any other, wherever its length has no root, or may not be.
func TestCheckOfNegAxes(t *testing.T) {
	for _, p := range primes() {
		for n := range 70 {
			for _, neg := range ways() {
				order := n
				if neg {
					order = 2 * n
				}
				axes := []api.Axis{{N: 2}, {N: n, Neg: neg}}
				want := api.OK
				switch {
				case n == 0:
					want = api.ErrDims
				case !slices.Contains([]int{1, 2, 3, 4, 5, 6, 8, 9, 10, 12, 15, 16, 18, 20, 24, 25, 27, 30, 32, 36, 40, 45, 48, 50, 54, 60, 64}, n):
					want = api.ErrSize
				case !rooted(p, order):
					want = api.ErrOrder
				}
				if e := Check(p, axes, twist(1)); e != want {
					t.Errorf("Check(%d, %v) is %d, want %d", p, axes, e, want)
				}
				if e := Check(p, axes, twist(0)); e != want {
					t.Errorf("Check(%d, %v) of the other axis is %d, want %d", p, axes, e, want)
				}
			}
		}
	}
}

// P16.1: a step of an axis that is not there, whatever else it is.
func TestCheckOutside(t *testing.T) {
	for _, p := range primes() {
		for _, d := range [][]int{{1}, {2}, {2, 4}, {2, 2, 2}, {2, 1, 4, 2}} {
			for _, axes := range signs(d...) {
				for _, at := range outside(len(axes)) {
					for _, s := range []api.Step{{}, {Twist: true}, {Stage: api.Stage{R: 2, L: 1, M: 1}}, {Twist: true, Stage: api.Stage{R: 2, L: 1, M: 1}}} {
						s.Axis = at
						checkError(t, p, axes, s, api.ErrArg)
					}
				}
			}
		}
	}
}

// off are numbers beside n, near and far.
func off(n int) []int {
	return []int{n - 1, n + 1, -n - 1, n + 1<<32, math.MinInt, math.MaxInt}
}

// wrongStages are stages with just one number other than s has it.
func wrongStages(s api.Stage) []api.Stage {
	var l []api.Stage
	for _, n := range off(s.R) {
		l = append(l, api.Stage{R: n, L: s.L, M: s.M})
	}
	for _, n := range off(s.L) {
		l = append(l, api.Stage{R: s.R, L: n, M: s.M})
	}
	for _, n := range off(s.M) {
		l = append(l, api.Stage{R: s.R, L: s.L, M: n})
	}
	return l
}

// P16.1: a twist has no stage, not even one of its axis.
func TestCheckOfTwists(t *testing.T) {
	for _, p := range primes() {
		for _, axes := range signs(1, 2, 16) {
			for axis := range axes {
				for _, stage := range slices.Concat(wrongStages(api.Stage{}), stagesOf(axes[axis].N)) {
					checkError(t, p, axes, api.Step{Axis: axis, Twist: true, Stage: stage}, api.ErrArg)
				}
			}
		}
	}
}

// P16.1: a stage is one of its axis: not zero, not another axis' alone, and with no number off.
func TestCheckOfStages(t *testing.T) {
	for _, p := range primes() {
		eachAxes(p, func(axes []api.Axis) {
			for axis, a := range axes {
				own := stagesOf(a.N)
				wrong := []api.Stage{{}, {R: 1, L: 1, M: 1}, {R: 1, L: 1, M: a.N}, {R: 1, L: a.N, M: 1}, {R: a.N, L: 1, M: 1}, {R: 2, L: 1, M: a.N / 2}, {R: 2, L: 2, M: a.N / 4}, {R: 5, L: 1, M: a.N / 5}}
				for _, s := range own {
					wrong = append(append(wrong, wrongStages(s)...), api.Stage{R: s.R, L: s.M, M: s.L})
				}
				for _, n := range lengths(p) {
					wrong = append(wrong, stagesOf(n)...)
				}
				for _, s := range wrong {
					want := api.ErrArg
					if slices.Contains(own, s) {
						want = api.OK
					}
					if e := Check(p, axes, api.Step{Axis: axis, Stage: s}); e != want {
						t.Errorf("Check(%d, %v) of stage %v of axis %d is %d, want %d", p, axes, s, axis, e, want)
					}
				}
			}
		})
	}
}

// P16.1, P16.2, P16.3, P16.4: all calls tell the error of such a step, whatever the words are.
func TestErrorsOfSteps(t *testing.T) {
	for _, p := range []uint64{api.P0, api.P2} {
		for _, axes := range signs(2, 6) {
			for _, s := range others() {
				checkError(t, p, axes, s, api.ErrArg)
			}
		}
	}
	for _, p := range primes() {
		for _, axes := range signs(1) {
			for _, s := range []api.Stage{{}, {R: 1, L: 1, M: 1}, {R: 2, L: 1, M: 1}} {
				checkError(t, p, axes, api.Step{Stage: s}, api.ErrArg)
			}
		}
	}
}

// P16.2: tables that are written out.
func TestTableWrittenOut(t *testing.T) {
	for _, p := range primes() {
		half := (p + 1) / 2
		four, back := wantRoot(p, 4, false), wantRoot(p, 4, true)
		axes := []api.Axis{{N: 1}, {N: 2}, {N: 8}, {N: 2, Neg: true}}
		for _, c := range []struct {
			s   api.Step
			inv bool
			l   []uint64
		}{
			{twist(0), false, []uint64{1}},
			{twist(0), true, []uint64{1}},
			{twist(1), false, []uint64{1, 1}},
			{twist(1), true, []uint64{half, half}},
			{twist(3), false, []uint64{1, four}},
			{twist(3), true, []uint64{half, mul(p, half, back)}},
			{api.Step{Axis: 1, Stage: api.Stage{R: 2, L: 1, M: 1}}, false, []uint64{1, 1}},
			{api.Step{Axis: 3, Stage: api.Stage{R: 2, L: 1, M: 1}}, true, []uint64{1, 1}},
			{api.Step{Axis: 2, Stage: api.Stage{R: 2, L: 4, M: 1}}, false, []uint64{1, 1}},
			{api.Step{Axis: 2, Stage: api.Stage{R: 4, L: 1, M: 2}}, false, []uint64{1, 1, 1, 1, 1, wantRoot(p, 8, false), four, mul(p, four, wantRoot(p, 8, false))}},
			{api.Step{Axis: 2, Stage: api.Stage{R: 4, L: 1, M: 2}}, true, []uint64{1, 1, 1, 1, 1, wantRoot(p, 8, true), back, mul(p, back, wantRoot(p, 8, true))}},
		} {
			checkSame(t, fmt.Sprint("Table ", p, c.s, c.inv), mustTable(t, p, axes, c.inv, c.s), c.l)
		}
	}
	axes := []api.Axis{{N: 4, Neg: true}}
	checkSame(t, "Table of a twist", mustTable(t, api.P1, axes, false, twist(0)), []uint64{1, 372528824, 911660635, 488723995})
	checkSame(t, "Table of a twist of 2", mustTable(t, api.P1, []api.Axis{{N: 2, Neg: true}}, true, twist(0)), []uint64{499122177, 43291859})
	checkSame(t, "Table of a stage", mustTable(t, api.P2, plain(6), false, api.Step{Stage: api.Stage{R: 2, L: 1, M: 3}}), []uint64{1, 1, 1, 1314723124, 1, 1314723123})
}

// P16.2: a table of each step.
func TestTableByReckoning(t *testing.T) {
	eachKind(t, func(t *testing.T, p uint64, inv bool) {
		eachStep(p, func(axes []api.Axis, s api.Step) {
			checkSame(t, fmt.Sprint("Table ", p, axes, inv, s), mustTable(t, p, axes, inv, s), wantTable(p, axes, inv, s))
		})
	})
}

// great are axes of as many words as there may be, or nearly.
func great(p uint64) [][]api.Axis {
	l := [][]api.Axis{{{N: 4096}}, {{N: 4096, Neg: true}}, {{N: 64, Neg: true}, {N: 64}}, {{N: 16}, {N: 2}, {N: 16, Neg: true}, {N: 8}}}
	if p != api.P1 {
		l = append(l, []api.Axis{{N: 1920, Neg: true}, {N: 2}}, []api.Axis{{N: 2}, {N: 15, Neg: true}, {N: 120}})
	}
	return l
}

// P16.2, P16.3, P16.4: as many words as there may be.
func TestGreatByReckoning(t *testing.T) {
	eachKind(t, func(t *testing.T, p uint64, inv bool) {
		for _, axes := range great(p) {
			for _, s := range stepsOf(axes) {
				checkSame(t, fmt.Sprint("Table ", p, axes, inv, s), mustTable(t, p, axes, inv, s), wantTable(p, axes, inv, s))
				if !sameGroups(mustGroups(t, p, axes, s), wantGroups(axes, s)) {
					t.Errorf("Groups(%d, %v, %v) are others than the document words", p, axes, s)
				}
				checkWords(t, p, axes, inv, s, words(p, product(axes), 3))
			}
		}
	})
}

// P16.2: factors, and those of the way back, undo each other, but for N of a twist.
func TestTablesUndoEachOther(t *testing.T) {
	for _, p := range primes() {
		eachStep(p, func(axes []api.Axis, s api.Step) {
			there, back := mustTable(t, p, axes, false, s), mustTable(t, p, axes, true, s)
			if len(there) != len(back) {
				t.Fatalf("Table(%d, %v, %v) has %d factors there, %d back", p, axes, s, len(there), len(back))
			}
			for i := range there {
				together := mul(p, there[i], back[i])
				if s.Twist {
					together = mul(p, together, uint64(axes[s.Axis].N))
				}
				if together != 1 {
					t.Errorf("Table(%d, %v, %v): factor %d is %d there, %d back", p, axes, s, i, there[i], back[i])
				}
			}
		})
	}
}

// P16.3: groups that are written out.
func TestGroupsWrittenOut(t *testing.T) {
	axes := []api.Axis{{N: 2}, {N: 6, Neg: true}}
	for _, c := range []struct {
		s api.Step
		l []api.Group
	}{
		{api.Step{Axis: 0, Stage: api.Stage{R: 2, L: 1, M: 1}}, []api.Group{
			{In: []int{0, 6}, Fac: []int{0, 1}, Out: []int{0, 6}},
			{In: []int{1, 7}, Fac: []int{0, 1}, Out: []int{1, 7}},
			{In: []int{2, 8}, Fac: []int{0, 1}, Out: []int{2, 8}},
			{In: []int{3, 9}, Fac: []int{0, 1}, Out: []int{3, 9}},
			{In: []int{4, 10}, Fac: []int{0, 1}, Out: []int{4, 10}},
			{In: []int{5, 11}, Fac: []int{0, 1}, Out: []int{5, 11}},
		}},
		{api.Step{Axis: 1, Stage: api.Stage{R: 2, L: 1, M: 3}}, []api.Group{
			{In: []int{0, 3}, Fac: []int{0, 1}, Out: []int{0, 1}},
			{In: []int{1, 4}, Fac: []int{2, 3}, Out: []int{2, 3}},
			{In: []int{2, 5}, Fac: []int{4, 5}, Out: []int{4, 5}},
			{In: []int{6, 9}, Fac: []int{0, 1}, Out: []int{6, 7}},
			{In: []int{7, 10}, Fac: []int{2, 3}, Out: []int{8, 9}},
			{In: []int{8, 11}, Fac: []int{4, 5}, Out: []int{10, 11}},
		}},
		{api.Step{Axis: 1, Stage: api.Stage{R: 3, L: 2, M: 1}}, []api.Group{
			{In: []int{0, 2, 4}, Fac: []int{0, 1, 2}, Out: []int{0, 2, 4}},
			{In: []int{1, 3, 5}, Fac: []int{0, 1, 2}, Out: []int{1, 3, 5}},
			{In: []int{6, 8, 10}, Fac: []int{0, 1, 2}, Out: []int{6, 8, 10}},
			{In: []int{7, 9, 11}, Fac: []int{0, 1, 2}, Out: []int{7, 9, 11}},
		}},
	} {
		if got := mustGroups(t, api.P2, axes, c.s); !sameGroups(got, c.l) {
			t.Errorf("Groups of %v are %v, want %v", c.s, got, c.l)
		}
	}
	for axis, facs := range [][]int{{0, 0, 0, 0, 0, 0, 1, 1, 1, 1, 1, 1}, {0, 1, 2, 3, 4, 5, 0, 1, 2, 3, 4, 5}} {
		var want []api.Group
		for i, fac := range facs {
			want = append(want, api.Group{In: []int{i}, Fac: []int{fac}, Out: []int{i}})
		}
		if got := mustGroups(t, api.P2, axes, twist(axis)); !sameGroups(got, want) {
			t.Errorf("Groups of the twist of %d are %v, want %v", axis, got, want)
		}
	}
}

// P16.3: groups of each step.
func TestGroupsByReckoning(t *testing.T) {
	for _, p := range primes() {
		eachStep(p, func(axes []api.Axis, s api.Step) {
			if got, want := mustGroups(t, p, axes, s), wantGroups(axes, s); !sameGroups(got, want) {
				t.Errorf("Groups(%d, %v, %v) are %v, want %v", p, axes, s, got, want)
			}
		})
	}
}

// P16.3: each place goes in, and comes out, in just one group, and all factors that are named stand in the table, and all of those are named.
func TestGroupsHaveAllPlaces(t *testing.T) {
	for _, p := range primes() {
		eachStep(p, func(axes []api.Axis, s api.Step) {
			n := product(axes)
			in, out := make([]int, n), make([]int, n)
			named := make([]int, len(mustTable(t, p, axes, false, s)))
			for _, g := range mustGroups(t, p, axes, s) {
				if len(g.In) != len(g.Fac) || len(g.In) != len(g.Out) {
					t.Fatalf("Groups(%d, %v, %v): %v", p, axes, s, g)
				}
				for i := range g.In {
					in[g.In[i]]++
					out[g.Out[i]]++
					named[g.Fac[i]]++
				}
			}
			for i := range n {
				if in[i] != 1 || out[i] != 1 {
					t.Errorf("Groups(%d, %v, %v): place %d is %d times in, %d times out", p, axes, s, i, in[i], out[i])
				}
			}
			for i, many := range named {
				if many != n/len(named) {
					t.Errorf("Groups(%d, %v, %v): factor %d is named %d times", p, axes, s, i, many)
				}
			}
		})
	}
}

// P16.4: what is written out.
func TestDoWrittenOut(t *testing.T) {
	for _, p := range primes() {
		two, half := api.Step{Stage: api.Stage{R: 2, L: 1, M: 1}}, (p+1)/2
		four := wantRoot(p, 4, false)
		for _, c := range []struct {
			axes []api.Axis
			inv  bool
			s    api.Step
			x, y []uint64
		}{
			{plain(2), false, two, []uint64{3, 5}, []uint64{8, p - 2}},
			{plain(2), true, two, []uint64{3, 5}, []uint64{8, p - 2}},
			{plain(2), false, twist(0), []uint64{3, 5}, []uint64{3, 5}},
			{plain(2), true, twist(0), []uint64{8, p - 2}, []uint64{4, p - 1}},
			{plain(2), true, twist(0), []uint64{0, 1}, []uint64{0, half}},
			{plain(1), true, twist(0), []uint64{p - 1}, []uint64{p - 1}},
			{[]api.Axis{{N: 1, Neg: true}}, false, twist(0), []uint64{7}, []uint64{7}},
			{[]api.Axis{{N: 2, Neg: true}}, false, twist(0), []uint64{1, 1}, []uint64{1, four}},
			{[]api.Axis{{N: 2, Neg: true}}, false, two, []uint64{3, 5}, []uint64{8, p - 2}},
			{plain(2, 2), false, two, []uint64{1, 2, 3, 4}, []uint64{4, 6, p - 2, p - 2}},
			{plain(2, 2), false, api.Step{Axis: 1, Stage: two.Stage}, []uint64{1, 2, 3, 4}, []uint64{3, p - 1, 7, p - 1}},
			{[]api.Axis{{N: 2}, {N: 2, Neg: true}}, false, twist(1), []uint64{1, 1, 1, 1}, []uint64{1, four, 1, four}},
			{[]api.Axis{{N: 2, Neg: true}, {N: 2}}, false, twist(0), []uint64{1, 1, 1, 1}, []uint64{1, 1, four, four}},
			{plain(8), false, api.Step{Stage: api.Stage{R: 2, L: 4, M: 1}}, []uint64{1, 2, 3, 4, 5, 6, 7, 8}, []uint64{6, 8, 10, 12, p - 4, p - 4, p - 4, p - 4}},
			{plain(8), false, api.Step{Stage: api.Stage{R: 4, L: 1, M: 2}}, []uint64{1, 0, 1, 0, 1, 0, 1, 0}, []uint64{4, 0, 0, 0, 0, 0, 0, 0}},
		} {
			checkSame(t, fmt.Sprint("Do ", p, c.axes, c.inv, c.s), mustDo(t, p, c.axes, c.inv, c.s, c.x), c.y)
		}
		if sums, e := Predict(p, plain(2), false, two, []uint64{3, 5}); sums != [2]uint64{6, 4} || e != api.OK {
			t.Errorf("Predict by %d is %v, %d", p, sums, e)
		}
	}
}

// P16.4: words of each step.
func TestDoByReckoning(t *testing.T) {
	eachKind(t, func(t *testing.T, p uint64, inv bool) {
		eachStep(p, func(axes []api.Axis, s api.Step) {
			for _, x := range ordinary(p, product(axes)) {
				checkWords(t, p, axes, inv, s, x)
			}
		})
	})
}

// P16.4: Predict is code.Sums of what Do tells.
func TestPredictIsSums(t *testing.T) {
	eachKind(t, func(t *testing.T, p uint64, inv bool) {
		eachStep(p, func(axes []api.Axis, s api.Step) {
			for salt := range uint64(4) {
				x := words(p, product(axes), salt)
				want, e := code.Sums(p, mustDo(t, p, axes, inv, s, x))
				if got, f := Predict(p, axes, inv, s, x); got != want || e != api.OK || f != api.OK {
					t.Errorf("Predict(%d, %v, %v, %v) is %v, %d, want %v, %d", p, axes, inv, s, got, f, want, e)
				}
			}
		})
	})
}

// P16.4: too few words, and too many, be they numbers of p or not.
func TestDoOfAnotherLength(t *testing.T) {
	for _, p := range primes() {
		eachStep(p, func(axes []api.Axis, s api.Step) {
			n := product(axes)
			for _, many := range []int{0, n - 1, n + 1, 2 * n, 4097} {
				for _, w := range []uint64{0, p - 1, p, greatest} {
					checkDoError(t, p, axes, s, slices.Repeat([]uint64{w}, many), api.ErrLen)
				}
			}
			checkDoError(t, p, axes, s, nil, api.ErrLen)
		})
	}
}

// P16.4: a word that is no number of p, wherever it is.
func TestDoOfNoNumbers(t *testing.T) {
	for _, p := range primes() {
		eachStep(p, func(axes []api.Axis, s api.Step) {
			n := product(axes)
			for _, bad := range []uint64{p, p + 1, greatest - 1, greatest} {
				for _, at := range []int{0, n / 2, n - 1} {
					checkDoError(t, p, axes, s, with(make([]uint64, n), at, bad), api.ErrWord)
					checkDoError(t, p, axes, s, with(words(p, n, 4), at, bad), api.ErrWord)
				}
				checkDoError(t, p, axes, s, slices.Repeat([]uint64{bad}, n), api.ErrWord)
			}
		})
	}
	// A number of one prime is none of another.
	checkDoError(t, api.P1, plain(2), twist(0), []uint64{0, api.P2 - 1}, api.ErrWord)
	checkSame(t, "Do of another prime's numbers", mustDo(t, api.P0, plain(2), false, twist(0), []uint64{api.P1, api.P2}), []uint64{api.P1, api.P2})
}

// forward are the steps of an axis there, and back those of the way back.
func forward(axes []api.Axis, axis int) []api.Step {
	if !axes[axis].Neg {
		return stagesAt(axes, axis)
	}
	return append([]api.Step{twist(axis)}, stagesAt(axes, axis)...)
}

func back(axes []api.Axis, axis int) []api.Step {
	return append(stagesAt(axes, axis), twist(axis))
}

// checkTransform holds all steps of an axis against the transform of that axis, there and back.
func checkTransform(t *testing.T, p uint64, axes []api.Axis, axis int, x []uint64) {
	t.Helper()
	for _, inv := range ways() {
		steps := forward(axes, axis)
		if inv {
			steps = back(axes, axis)
		}
		want, e := grid.Axis(p, axes, axis, inv, x)
		if e != api.OK {
			t.Fatalf("grid.Axis(%d, %v, %d, %v) has error %d", p, axes, axis, inv, e)
		}
		checkSame(t, fmt.Sprint("steps of axis ", axis, " of ", p, axes, inv), mustAll(t, p, axes, inv, steps, x), want)
	}
}

// P16.5: the twist ahead, if Neg, and all stages are the transform of that axis; back, all stages and then the twist.
func TestStepsAreTheTransform(t *testing.T) {
	for _, p := range primes() {
		t.Run(fmt.Sprint(p), func(t *testing.T) {
			t.Parallel()
			eachAxes(p, func(axes []api.Axis) {
				for axis := range axes {
					for _, x := range ordinary(p, product(axes)) {
						checkTransform(t, p, axes, axis, x)
					}
				}
			})
		})
	}
}

// P16.5: each length up to 30 that may be, alone and beside other axes, on both sides; those without a root have no steps.
func TestStepsOfEachLength(t *testing.T) {
	for _, p := range primes() {
		for _, n := range []int{1, 2, 3, 4, 5, 6, 8, 9, 10, 12, 15, 16, 20, 24, 25, 30} {
			for _, neg := range ways() {
				a := api.Axis{N: n, Neg: neg}
				order := n
				if neg {
					order = 2 * n
				}
				for _, c := range []struct {
					axis int
					axes []api.Axis
				}{
					{0, []api.Axis{a}},
					{0, []api.Axis{a, {N: 4, Neg: true}}},
					{1, []api.Axis{{N: 2}, a, {N: 4}}},
					{3, []api.Axis{{N: 2}, {N: 1, Neg: true}, {N: 2, Neg: true}, a}},
				} {
					if rooted(p, order) {
						checkTransform(t, p, c.axes, c.axis, words(p, product(c.axes), 5))
					} else {
						checkError(t, p, c.axes, twist(c.axis), api.ErrOrder)
					}
				}
			}
		}
	}
}

// P16.5: as many words as there may be.
func TestGreatStepsAreTheTransform(t *testing.T) {
	for _, p := range primes() {
		t.Run(fmt.Sprint(p), func(t *testing.T) {
			t.Parallel()
			for _, axes := range great(p) {
				for axis := range axes {
					checkTransform(t, p, axes, axis, words(p, product(axes), 6))
				}
			}
		})
	}
}

// P16.5: there and back, and back and there, is what it was.
func TestThereAndBack(t *testing.T) {
	for _, p := range primes() {
		eachAxes(p, func(axes []api.Axis) {
			for axis := range axes {
				x := words(p, product(axes), 7)
				there := mustAll(t, p, axes, false, forward(axes, axis), x)
				checkSame(t, fmt.Sprint("there and back ", p, axes, axis), mustAll(t, p, axes, true, back(axes, axis), there), x)
				undone := mustAll(t, p, axes, true, back(axes, axis), x)
				checkSame(t, fmt.Sprint("back and there ", p, axes, axis), mustAll(t, p, axes, false, forward(axes, axis), undone), x)
			}
		})
	}
}

// P16.4: sums of words, and words times a number, go through each step.
func TestSumsGoThrough(t *testing.T) {
	eachKind(t, func(t *testing.T, p uint64, inv bool) {
		eachStep(p, func(axes []api.Axis, s api.Step) {
			n := product(axes)
			x, y, by := words(p, n, 8), words(p, n, 9), words(p, 9, 10)[8]
			both := make([]uint64, n)
			for i := range both {
				both[i] = add(p, mul(p, by, x[i]), y[i])
			}
			a, b := mustDo(t, p, axes, inv, s, x), mustDo(t, p, axes, inv, s, y)
			want := make([]uint64, n)
			for i := range want {
				want[i] = add(p, mul(p, by, a[i]), b[i])
			}
			checkSame(t, fmt.Sprint("Do of a sum ", p, axes, inv, s), mustDo(t, p, axes, inv, s, both), want)
		})
	})
}

// P16.2, P16.4: what is handed in stays as it was, behind its end too, also if what is told is written into; what is told is new at each call.
func TestWordsToldAreNew(t *testing.T) {
	eachKind(t, func(t *testing.T, p uint64, inv bool) {
		for _, d := range [][]int{{1}, {2}, {8}, {2, 4}, {1, 1, 1, 1}, {4, 2, 2}} {
			for _, some := range signs(d...) {
				for _, s := range stepsOf(some) {
					for name, call := range map[string]func(axes []api.Axis, x []uint64) ([]uint64, api.Errno){
						"Do":    func(axes []api.Axis, x []uint64) ([]uint64, api.Errno) { return Do(p, axes, inv, s, x) },
						"Table": func(axes []api.Axis, _ []uint64) ([]uint64, api.Errno) { return Table(p, axes, inv, s) },
					} {
						checkNew(t, name, p, some, call)
					}
				}
			}
		}
	})
}

// checkNew tells whether a call shares what it tells with what it is handed, or with another answer.
func checkNew(t *testing.T, name string, p uint64, some []api.Axis, call func(axes []api.Axis, x []uint64) ([]uint64, api.Errno)) {
	t.Helper()
	n := product(some)
	wholeAxes := append(slices.Clone(some), api.Axis{N: 3}, api.Axis{N: -1, Neg: true})
	whole := words(p, 2*n, 11)
	keptAxes, kept := slices.Clone(wholeAxes), slices.Clone(whole)
	left := func(what string) {
		t.Helper()
		checkSame(t, name+what, whole, kept)
		if !slices.Equal(wholeAxes, keptAxes) {
			t.Errorf("%s%s leaves axes %v, they were %v", name, what, wholeAxes, keptAxes)
		}
	}
	first, e := call(wholeAxes[:len(some)], whole[:n])
	second, f := call(wholeAxes[:len(some)], whole[:n])
	if e != api.OK || f != api.OK {
		t.Fatalf("%s(%d, %v): errors %d, %d", name, p, some, e, f)
	}
	left("")
	checkSame(t, name+" once more", second, first)
	told := slices.Clone(first)
	for i := range second {
		second[i]++
	}
	checkSame(t, name+", the other answer written into", first, told)
	left(", its answer written into")
	clear(whole)
	clear(wholeAxes)
	checkSame(t, name+", what was handed in written into", first, told)
}

// write writes into all lists of groups, and behind their ends, where they have room there.
func write(l []api.Group, with int) {
	for _, g := range l {
		for _, list := range [][]int{g.In, g.Fac, g.Out} {
			for k := range list {
				list[k] = with
			}
			_ = append(list, with)
		}
	}
}

// cloned are groups with lists of their own.
func cloned(l []api.Group) []api.Group {
	m := make([]api.Group, len(l))
	for i, g := range l {
		m[i] = api.Group{In: slices.Clone(g.In), Fac: slices.Clone(g.Fac), Out: slices.Clone(g.Out)}
	}
	return m
}

// P16.3: the lists of a group are the caller's own: no two of one answer, or of two, share anything.
func TestGroupsToldAreNew(t *testing.T) {
	for _, p := range primes() {
		for _, d := range [][]int{{1}, {2}, {8}, {2, 4}, {4, 2, 2}} {
			for _, axes := range signs(d...) {
				for _, s := range stepsOf(axes) {
					keptAxes := slices.Clone(axes)
					first, second := mustGroups(t, p, axes, s), mustGroups(t, p, axes, s)
					told := cloned(first)
					write(second, -7)
					if !sameGroups(first, told) {
						t.Errorf("Groups(%d, %v, %v) shares lists with another answer", p, axes, s)
					}
					for i := range first {
						checkOwnLists(t, first[i:], told[i:])
					}
					if !slices.Equal(axes, keptAxes) {
						t.Errorf("Groups(%d) leaves axes %v, they were %v", p, axes, keptAxes)
					}
					if !sameGroups(mustGroups(t, p, axes, s), told) {
						t.Errorf("Groups(%d, %v, %v) are others once their lists were written into", p, axes, s)
					}
				}
			}
		}
	}
}

// checkOwnLists writes into the lists of the first group, one by one: no other list may change by that.
func checkOwnLists(t *testing.T, l, told []api.Group) {
	t.Helper()
	write([]api.Group{{In: l[0].In}}, -1)
	if !slices.Equal(l[0].Fac, told[0].Fac) || !slices.Equal(l[0].Out, told[0].Out) || !sameGroups(l[1:], told[1:]) {
		t.Errorf("In shares with another list: %v, they were %v", l, told)
	}
	write([]api.Group{{Fac: l[0].Fac}}, -2)
	if !slices.Equal(l[0].Out, told[0].Out) || !sameGroups(l[1:], told[1:]) {
		t.Errorf("Fac shares with another list: %v, they were %v", l, told)
	}
	write([]api.Group{{Out: l[0].Out}}, -3)
	if !sameGroups(l[1:], told[1:]) {
		t.Errorf("Out shares with another group's list: %v, they were %v", l, told)
	}
}

// P16.1, P16.2, P16.3, P16.4: calls that tell an error leave what is handed in as it was too.
func TestErrorsLeaveWhatIsHandedIn(t *testing.T) {
	for _, p := range append(primes(), 6) {
		for _, d := range [][]int{{0}, {7}, {9}, {2, 4}, {1, 1, 1, 1, 1}} {
			for _, many := range []int{1, 8} {
				for _, s := range append(others(), twist(0)) {
					axes, x := plain(d...), words(api.P1, many, 12)
					axes[0].Neg = true
					x[many-1] = greatest
					keptAxes, kept := slices.Clone(axes), slices.Clone(x)
					for _, inv := range ways() {
						Check(p, axes, s)
						Table(p, axes, inv, s)
						Groups(p, axes, s)
						Do(p, axes, inv, s, x)
						Predict(p, axes, inv, s, x)
					}
					checkSame(t, fmt.Sprint("words behind an error ", p, d, s), x, kept)
					if !slices.Equal(axes, keptAxes) {
						t.Errorf("an error leaves axes %v, they were %v", axes, keptAxes)
					}
				}
			}
		}
	}
}
