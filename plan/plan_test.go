package plan

import (
	"fmt"
	"math"
	"slices"
	"testing"

	"bracken/api"
	"bracken/grid"
	"bracken/step"
)

const greatest = math.MaxUint64

func primes() []uint64 { return []uint64{api.P0, api.P1, api.P2} }

func ways() []bool { return []bool{false, true} }

// strangers are no primes that are known: 0, neighbours of those that are, products, and other primes.
func strangers() []uint64 {
	l := []uint64{0, 1, 2, 3, 5, 7, 17, 257, 65537, 1 << 63, greatest, api.P1 * api.P2, 469762049}
	for _, p := range primes() {
		l = append(l, p-1, p+1)
	}
	return l
}

// stagesOf are the stages of some lengths, as they are by hand.
func stagesOf(n int) []api.Stage {
	return map[int][]api.Stage{
		1:    {},
		2:    {{R: 2, L: 1, M: 1}},
		3:    {{R: 3, L: 1, M: 1}},
		4:    {{R: 4, L: 1, M: 1}},
		5:    {{R: 5, L: 1, M: 1}},
		6:    {{R: 2, L: 1, M: 3}, {R: 3, L: 2, M: 1}},
		8:    {{R: 4, L: 1, M: 2}, {R: 2, L: 4, M: 1}},
		10:   {{R: 2, L: 1, M: 5}, {R: 5, L: 2, M: 1}},
		12:   {{R: 4, L: 1, M: 3}, {R: 3, L: 4, M: 1}},
		15:   {{R: 3, L: 1, M: 5}, {R: 5, L: 3, M: 1}},
		16:   {{R: 4, L: 1, M: 4}, {R: 4, L: 4, M: 1}},
		20:   {{R: 4, L: 1, M: 5}, {R: 5, L: 4, M: 1}},
		24:   {{R: 4, L: 1, M: 6}, {R: 2, L: 4, M: 3}, {R: 3, L: 8, M: 1}},
		30:   {{R: 2, L: 1, M: 15}, {R: 3, L: 2, M: 5}, {R: 5, L: 6, M: 1}},
		32:   {{R: 4, L: 1, M: 8}, {R: 4, L: 4, M: 2}, {R: 2, L: 16, M: 1}},
		60:   {{R: 4, L: 1, M: 15}, {R: 3, L: 4, M: 5}, {R: 5, L: 12, M: 1}},
		64:   {{R: 4, L: 1, M: 16}, {R: 4, L: 4, M: 4}, {R: 4, L: 16, M: 1}},
		120:  {{R: 4, L: 1, M: 30}, {R: 2, L: 4, M: 15}, {R: 3, L: 8, M: 5}, {R: 5, L: 24, M: 1}},
		1920: {{R: 4, L: 1, M: 480}, {R: 4, L: 4, M: 120}, {R: 4, L: 16, M: 30}, {R: 2, L: 64, M: 15}, {R: 3, L: 128, M: 5}, {R: 5, L: 384, M: 1}},
		4096: {{R: 4, L: 1, M: 1024}, {R: 4, L: 4, M: 256}, {R: 4, L: 16, M: 64}, {R: 4, L: 64, M: 16}, {R: 4, L: 256, M: 4}, {R: 4, L: 1024, M: 1}},
	}[n]
}

// reckonedStages are the stages of any length, by the document's words; none and false, if it is made of other parts too.
func reckonedStages(n int) ([]api.Stage, bool) {
	var l []api.Stage
	left, ahead := n, 1
	for _, r := range []int{4, 2, 3, 5} {
		for left%r == 0 {
			left /= r
			l = append(l, api.Stage{R: r, L: ahead, M: left})
			ahead *= r
		}
	}
	if left != 1 {
		return nil, false
	}
	return l, true
}

// twist is the twist of an axis.
func twist(axis int) api.Step { return api.Step{Axis: axis, Twist: true} }

// staged is a stage of an axis.
func staged(axis, r, l, m int) api.Step {
	return api.Step{Axis: axis, Stage: api.Stage{R: r, L: l, M: m}}
}

// stepsBy are all steps of axes by the document's words, if the stages of each length are these.
func stepsBy(stages func(n int) []api.Stage, axes []api.Axis, inv bool) []api.Step {
	var l []api.Step
	for i, a := range axes {
		if !inv && a.Neg {
			l = append(l, twist(i))
		}
		for _, s := range stages(a.N) {
			l = append(l, staged(i, s.R, s.L, s.M))
		}
		if inv {
			l = append(l, twist(i))
		}
	}
	return l
}

// plain are axes of these lengths, none of them Neg.
func plain(dims ...int) []api.Axis {
	l := make([]api.Axis, len(dims))
	for i, d := range dims {
		l[i].N = d
	}
	return l
}

// turnedAxes are axes of these lengths, all of them Neg.
func turnedAxes(dims ...int) []api.Axis {
	l := plain(dims...)
	for i := range l {
		l[i].Neg = true
	}
	return l
}

// signs are axes of these lengths, with each of them Neg and not, side by side.
func signs(dims ...int) [][]api.Axis {
	l := [][]api.Axis{plain(dims...)}
	for i := range dims {
		for _, axes := range slices.Clone(l) {
			other := slices.Clone(axes)
			other[i].Neg = true
			l = append(l, other)
		}
	}
	return l
}

// product is how many words axes have that may be.
func product(axes []api.Axis) int {
	n := 1
	for _, a := range axes {
		n *= a.N
	}
	return n
}

// lengths are those of one axis that may be by p, short ones.
func lengths(p uint64) []int {
	if p == api.P1 {
		return []int{1, 2, 4, 8, 16, 32, 64}
	}
	return []int{1, 2, 3, 4, 5, 6, 8, 10, 12, 15, 16, 20, 24, 30, 32, 60, 64, 120}
}

// shapes are lengths of several axes that may be by p, with each length first, last and in the middle.
func shapes(p uint64) [][]int {
	l := [][]int{{1, 1}, {2, 4}, {8, 2}, {1, 16}, {16, 1}, {4, 4}, {2, 2, 2}, {2, 8, 4}, {4, 1, 8}, {8, 2, 1}, {2, 1, 4, 2}, {1, 4, 2, 8}, {1, 1, 1, 1}}
	if p != api.P1 {
		l = append(l, [][]int{{3, 2}, {2, 3}, {5, 3}, {6, 2}, {2, 6}, {12, 5}, {2, 6, 3}, {6, 4, 5}, {3, 5, 6}, {2, 3, 1, 5}, {3, 2, 6, 2}}...)
	}
	return l
}

// eachAxes goes through axes that may be by p: one of each length, and several.
func eachAxes(p uint64, do func(axes []api.Axis)) {
	dims := shapes(p)
	for _, n := range lengths(p) {
		dims = append(dims, []int{n})
	}
	for _, d := range dims {
		for _, axes := range signs(d...) {
			do(axes)
		}
	}
}

// great are axes of as many words as there may be, or nearly.
func great(p uint64) [][]api.Axis {
	l := [][]api.Axis{{{N: 4096}}, {{N: 4096, Neg: true}}, {{N: 64, Neg: true}, {N: 64}}, {{N: 16}, {N: 2}, {N: 16, Neg: true}, {N: 8}}}
	if p != api.P1 {
		l = append(l, []api.Axis{{N: 1920, Neg: true}, {N: 2}}, []api.Axis{{N: 2}, {N: 15, Neg: true}, {N: 120}})
	}
	return l
}

// eachKind runs a test of each prime, there and back, side by side.
func eachKind(t *testing.T, run func(t *testing.T, p uint64, inv bool)) {
	for _, p := range primes() {
		for _, inv := range ways() {
			t.Run(fmt.Sprintf("%d/%v", p, inv), func(t *testing.T) {
				t.Parallel()
				run(t, p, inv)
			})
		}
	}
}

// words are n numbers of p by a fixed rule, others for each salt; 0 and p less 1 are among them.
func words(p uint64, n int, salt uint64) []uint64 {
	l := make([]uint64, n)
	state := salt*2 + 1
	for i := range l {
		state = state*6364136223846793005 + 1442695040888963407
		l[i] = (state ^ state>>29) % p
		switch state >> 60 {
		case 0:
			l[i] = 0
		case 1:
			l[i] = p - 1
		case 2:
			l[i] %= 10
		}
	}
	return l
}

// with is l with another word in one place.
func with(l []uint64, at int, w uint64) []uint64 {
	other := slices.Clone(l)
	other[at] = w
	return other
}

// few are the first axes of many, since what is told of a failure is to be short.
func few(axes []api.Axis) []api.Axis { return axes[:min(len(axes), 6)] }

// samePlan tells whether plans are the same, steps included.
func samePlan(a, b api.Plan) bool {
	return a.N == b.N && a.Table == b.Table && a.Words == b.Words && slices.Equal(a.Steps, b.Steps)
}

func mustSteps(t *testing.T, p uint64, axes []api.Axis, inv bool) []api.Step {
	t.Helper()
	l, e := Steps(p, axes, inv)
	if e != api.OK {
		t.Fatalf("Steps(%d, %v, %v) has error %d", p, axes, inv, e)
	}
	return l
}

func mustMake(t *testing.T, p uint64, axes []api.Axis, inv bool) api.Plan {
	t.Helper()
	m, e := Make(p, axes, inv)
	if e != api.OK {
		t.Fatalf("Make(%d, %v, %v) has error %d", p, axes, inv, e)
	}
	return m
}

func mustItem(t *testing.T, q api.Req, i int) []uint64 {
	t.Helper()
	l, e := Item(q, i)
	if e != api.OK {
		t.Fatalf("Item %d of %d words, by %d, axes %v, batch %d, has error %d", i, len(q.X), q.P, q.Axes, q.Batch, e)
	}
	return l
}

// checkSame tells the first word that differs, since there may be many.
func checkSame(t *testing.T, what string, got, want []uint64) {
	t.Helper()
	if len(got) != len(want) {
		t.Errorf("%s: %d words, want %d", what, len(got), len(want))
		return
	}
	for i := range got {
		if got[i] != want[i] {
			t.Errorf("%s: word %d is %d, want %d", what, i, got[i], want[i])
			return
		}
	}
}

func checkSteps(t *testing.T, p uint64, axes []api.Axis, inv bool, want []api.Step) {
	t.Helper()
	if got := mustSteps(t, p, axes, inv); !slices.Equal(got, want) {
		t.Errorf("Steps(%d, %v, %v) are %v, want %v", p, axes, inv, got, want)
	}
}

// checkMake holds a plan against the tables of all these steps.
func checkMake(t *testing.T, p uint64, axes []api.Axis, inv bool, steps []api.Step) {
	t.Helper()
	want := api.Plan{N: product(axes), Steps: steps}
	for _, s := range steps {
		factors, e := step.Table(p, axes, inv, s)
		if e != api.OK {
			t.Fatalf("step.Table(%d, %v, %v, %v) has error %d", p, axes, inv, s, e)
		}
		want.Table = max(want.Table, len(factors))
	}
	want.Words = 2*(want.N+6) + want.Table
	if got := mustMake(t, p, axes, inv); !samePlan(got, want) {
		t.Errorf("Make(%d, %v, %v) is %v, want %v", p, axes, inv, got, want)
	}
}

// request is one with nothing wrong with it: batch items of these axes.
func request(p uint64, axes []api.Axis, batch int) api.Req {
	return api.Req{P: p, Axes: slices.Clone(axes), Batch: batch, X: words(p, batch*product(axes), 1), Seeds: []uint64{3}}
}

// clone is a request with lists of its own.
func clone(q api.Req) api.Req {
	q.Axes, q.X, q.Seeds = slices.Clone(q.Axes), slices.Clone(q.X), slices.Clone(q.Seeds)
	return q
}

// edges are numbers of items near those that there are if there are so many, and far from them.
func edges(many int) []int {
	return []int{math.MinInt, math.MinInt + 1, -1 << 32, -many, -1, 0, many - 1, many, many + 1, 1 << 32, math.MaxInt - 1, math.MaxInt}
}

// checkRequest wants an error of Check, and of Item, of whatever item.
func checkRequest(t *testing.T, what string, q api.Req, want api.Errno) {
	t.Helper()
	if got := Check(q); got != want {
		t.Errorf("%s: Check is %d, want %d (by %d, axes %v, batch %d)", what, got, want, q.P, few(q.Axes), q.Batch)
	}
	if want == api.OK {
		return
	}
	for _, i := range append(edges(2), 1) {
		if l, e := Item(q, i); len(l) != 0 || e != want {
			t.Errorf("%s: Item %d is %d words, %d, want %d", what, i, len(l), e, want)
		}
	}
}

// checkAxes wants one error of all that is asked of axes; requests are such that all behind the axes is wrong with them too, and such that nothing is.
func checkAxes(t *testing.T, p uint64, axes []api.Axis, want api.Errno) {
	t.Helper()
	for _, inv := range ways() {
		if l, e := Steps(p, axes, inv); len(l) != 0 || e != want {
			t.Errorf("Steps(%d, %v, %v) are %v, %d, want %d", p, few(axes), inv, l, e, want)
		}
		if m, e := Make(p, axes, inv); !samePlan(m, api.Plan{}) || e != want {
			t.Errorf("Make(%d, %v, %v) is %v, %d, want %d", p, few(axes), inv, m, e, want)
		}
		for _, x := range [][]uint64{nil, {0}, {greatest}, make([]uint64, 2), make([]uint64, 18), slices.Repeat([]uint64{greatest}, 18)} {
			q := api.Req{P: p, Axes: axes, Inv: inv, Batch: 2, X: x}
			checkRequest(t, "axes", q, want)
			q.Seeds = []uint64{1}
			checkRequest(t, "axes", q, want)
			q.Batch, q.Seeds = 17, nil
			checkRequest(t, "axes and batch", q, api.ErrArg)
		}
	}
}

// P17.1, P17.2, P17.3: axes that may not be, each in its own way, and in several.
func TestErrorsOfAxes(t *testing.T) {
	for _, p := range strangers() {
		for _, d := range [][]int{nil, {1}, {2, 6}, {0}, {7}, {9}, {4096, 4096}, {1, 1, 1, 1, 1}, {9, 7, 0}} {
			checkAxes(t, p, plain(d...), api.ErrPrime)
			checkAxes(t, p, turnedAxes(d...), api.ErrPrime)
		}
	}
	for _, p := range primes() {
		for _, d := range [][]int{nil, {}, {0}, {-1}, {math.MinInt}, {4097}, {8192}, {math.MaxInt}, {2, 0}, {0, 2}, {-2, -3}, {64, 65}, {4096, 2}, {1 << 32, 1 << 32}, {1, 1, 1, 1, 1}, {2, 2, 2, 2, 2}, {7, 0}, {0, 9}, {9, 4096}, {9, 7, 0}, {7, 9, 4096}, {7, 9, 1, 1, 1}} {
			checkAxes(t, p, plain(d...), api.ErrDims)
			checkAxes(t, p, turnedAxes(d...), api.ErrDims)
		}
		checkAxes(t, p, make([]api.Axis, 4097), api.ErrDims)
		for _, d := range [][]int{{7}, {11}, {14}, {4095}, {2, 7}, {7, 2}, {9, 7}, {7, 9}, {25, 2, 7, 9}, {1, 1, 1, 13}} {
			checkAxes(t, p, plain(d...), api.ErrSize)
			checkAxes(t, p, turnedAxes(d...), api.ErrSize)
		}
		for _, d := range [][]int{{9}, {25}, {27}, {2, 9}, {9, 2}, {75, 2}, {1, 1, 1, 18}} {
			checkAxes(t, p, plain(d...), api.ErrOrder)
			checkAxes(t, p, turnedAxes(d...), api.ErrOrder)
		}
	}
	for _, d := range [][]int{{3}, {5}, {6}, {10}, {2, 3}, {3, 2}, {15, 4}, {2, 6}} {
		checkAxes(t, api.P1, plain(d...), api.ErrOrder)
		checkAxes(t, api.P1, turnedAxes(d...), api.ErrOrder)
	}
}

// P17.1: steps that are written out.
func TestStepsWrittenOut(t *testing.T) {
	for _, p := range []uint64{api.P0, api.P2} {
		checkSteps(t, p, plain(6), false, []api.Step{staged(0, 2, 1, 3), staged(0, 3, 2, 1)})
		checkSteps(t, p, plain(6), true, []api.Step{staged(0, 2, 1, 3), staged(0, 3, 2, 1), twist(0)})
		checkSteps(t, p, turnedAxes(6), false, []api.Step{twist(0), staged(0, 2, 1, 3), staged(0, 3, 2, 1)})
		checkSteps(t, p, turnedAxes(6), true, []api.Step{staged(0, 2, 1, 3), staged(0, 3, 2, 1), twist(0)})
		axes := []api.Axis{{N: 6, Neg: true}, {N: 1}, {N: 5}, {N: 8, Neg: true}}
		checkSteps(t, p, axes, false, []api.Step{
			twist(0), staged(0, 2, 1, 3), staged(0, 3, 2, 1),
			staged(2, 5, 1, 1),
			twist(3), staged(3, 4, 1, 2), staged(3, 2, 4, 1),
		})
		checkSteps(t, p, axes, true, []api.Step{
			staged(0, 2, 1, 3), staged(0, 3, 2, 1), twist(0),
			twist(1),
			staged(2, 5, 1, 1), twist(2),
			staged(3, 4, 1, 2), staged(3, 2, 4, 1), twist(3),
		})
	}
}

// P17.1: an axis of length 1 has no stages.
func TestStepsOfLengthOne(t *testing.T) {
	for _, p := range primes() {
		checkSteps(t, p, plain(1), false, nil)
		checkSteps(t, p, plain(1), true, []api.Step{twist(0)})
		checkSteps(t, p, turnedAxes(1), false, []api.Step{twist(0)})
		checkSteps(t, p, turnedAxes(1), true, []api.Step{twist(0)})
		checkSteps(t, p, plain(1, 1, 1, 1), false, nil)
		checkSteps(t, p, plain(1, 1, 1, 1), true, []api.Step{twist(0), twist(1), twist(2), twist(3)})
		checkSteps(t, p, turnedAxes(1, 1, 1, 1), false, []api.Step{twist(0), twist(1), twist(2), twist(3)})
		axes := []api.Axis{{N: 1}, {N: 1, Neg: true}, {N: 2}, {N: 1, Neg: true}}
		checkSteps(t, p, axes, false, []api.Step{twist(1), staged(2, 2, 1, 1), twist(3)})
		checkSteps(t, p, axes, true, []api.Step{twist(0), twist(1), staged(2, 2, 1, 1), twist(2), twist(3)})
	}
}

// P17.1, P17.2: steps, and plans, of one axis and of several.
func TestStepsAndPlansByHand(t *testing.T) {
	eachKind(t, func(t *testing.T, p uint64, inv bool) {
		eachAxes(p, func(axes []api.Axis) {
			want := stepsBy(stagesOf, axes, inv)
			checkSteps(t, p, axes, inv, want)
			checkMake(t, p, axes, inv, want)
		})
		for _, axes := range great(p) {
			want := stepsBy(stagesOf, axes, inv)
			checkSteps(t, p, axes, inv, want)
			checkMake(t, p, axes, inv, want)
		}
	})
}

// P17.1, P17.2: each length that there is, Neg and not: its steps, or its error.
func TestStepsAndPlansOfEachLength(t *testing.T) {
	eachKind(t, func(t *testing.T, p uint64, inv bool) {
		for n := 1; n <= 4096; n++ {
			stages, smooth := reckonedStages(n)
			for _, neg := range ways() {
				axes, order := []api.Axis{{N: n, Neg: neg}}, n
				if neg {
					order = 2 * n
				}
				want := api.OK
				switch {
				case !smooth:
					want = api.ErrSize
				case (p-1)%uint64(order) != 0:
					want = api.ErrOrder
				}
				if want == api.OK {
					steps := stepsBy(func(int) []api.Stage { return stages }, axes, inv)
					checkSteps(t, p, axes, inv, steps)
					checkMake(t, p, axes, inv, steps)
					continue
				}
				if l, e := Steps(p, axes, inv); len(l) != 0 || e != want {
					t.Errorf("Steps(%d, %v, %v) are %v, %d, want %d", p, axes, inv, l, e, want)
				}
				if m, e := Make(p, axes, inv); !samePlan(m, api.Plan{}) || e != want {
					t.Errorf("Make(%d, %v, %v) is %v, %d, want %d", p, axes, inv, m, e, want)
				}
			}
		}
	})
}

// P17.2: plans' numbers that are written out.
func TestMakeWrittenOut(t *testing.T) {
	for _, p := range primes() {
		for _, c := range []struct {
			axes            []api.Axis
			inv             bool
			n, table, words int
			steps           int
		}{
			{plain(1), false, 1, 0, 14, 0},
			{plain(1, 1, 1, 1), false, 1, 0, 14, 0},
			{plain(1), true, 1, 1, 15, 1},
			{turnedAxes(1), false, 1, 1, 15, 1},
			{plain(2), false, 2, 2, 18, 1},
			{plain(2), true, 2, 2, 18, 2},
			{turnedAxes(2), false, 2, 2, 18, 2},
			{plain(2, 8, 4), false, 64, 8, 148, 4},
			{plain(4, 8, 2), true, 64, 8, 148, 7},
			{[]api.Axis{{N: 1, Neg: true}, {N: 1}}, false, 1, 1, 15, 1},
			{plain(64, 64), false, 4096, 64, 8268, 6},
			{plain(4096), false, 4096, 4096, 12300, 6},
			{turnedAxes(4096), true, 4096, 4096, 12300, 7},
		} {
			m := mustMake(t, p, c.axes, c.inv)
			if m.N != c.n || m.Table != c.table || m.Words != c.words || len(m.Steps) != c.steps {
				t.Errorf("Make(%d, %v, %v) has N %d, Table %d, Words %d, %d steps, want %d, %d, %d, %d", p, c.axes, c.inv, m.N, m.Table, m.Words, len(m.Steps), c.n, c.table, c.words, c.steps)
			}
		}
	}
	if m := mustMake(t, api.P2, plain(2, 6, 3), true); m.N != 36 || m.Table != 6 || m.Words != 90 || len(m.Steps) != 7 {
		t.Errorf("Make of 2, 6, 3 is %v", m)
	}
}

// P17.2: no plan asks for more words than a memory has.
func TestPlansFitAMemory(t *testing.T) {
	for _, p := range primes() {
		for _, inv := range ways() {
			for _, axes := range great(p) {
				if m := mustMake(t, p, axes, inv); m.Words > api.MaxWords {
					t.Errorf("Make(%d, %v, %v) asks for %d words", p, axes, inv, m.Words)
				}
			}
		}
	}
}

// P17.3: requests that may be: of each number of items, of retries, of new beginnings, and of seeds.
func TestCheckOfRequests(t *testing.T) {
	for _, p := range primes() {
		for _, inv := range ways() {
			for _, axes := range signs(2, 1, 4) {
				for batch := 1; batch <= 16; batch++ {
					q := request(p, axes, batch)
					q.Inv = inv
					checkRequest(t, "batch", q, api.OK)
				}
			}
			q := request(p, plain(2), 2)
			q.Inv = inv
			for retry := range 9 {
				for again := range 9 {
					q.Retry, q.Again = retry, again
					checkRequest(t, "retry and again", q, api.OK)
				}
			}
			for _, seeds := range [][]uint64{{0}, {greatest}, {p}, {1, 1}, {0, p, greatest}, {5, 5, 5, 5}, {p - 1, p, p + 1, 0}} {
				q.Seeds = seeds
				checkRequest(t, "seeds", q, api.OK)
			}
			for _, x := range [][]uint64{{0, 0, 0, 0}, {p - 1, p - 1, p - 1, p - 1}, {0, p - 1, 1, 2}} {
				q.X = x
				checkRequest(t, "words", q, api.OK)
			}
		}
		for _, axes := range great(p) {
			checkRequest(t, "great", request(p, axes, 16), api.OK)
		}
	}
}

// P17.3: requests of axes of all kinds.
func TestCheckOfRequestsOfEachAxes(t *testing.T) {
	for _, p := range primes() {
		eachAxes(p, func(axes []api.Axis) {
			for _, batch := range []int{1, 3, 16} {
				checkRequest(t, "axes", request(p, axes, batch), api.OK)
			}
		})
	}
}

// beyond are numbers that are not from least to most.
func beyond(least, most int) []int {
	return []int{least - 1, least - 2, -most - 1, -1 << 32, math.MinInt, math.MinInt + 1, most + 1, most + 2, 2 * most, 1<<32 + least, 1<<32 + most, math.MaxInt - 1, math.MaxInt}
}

// P17.3: Batch, Retry and Again that may not be, also where X has none, or as many words as would go with them.
func TestCheckOfNumbers(t *testing.T) {
	for _, p := range primes() {
		for _, batch := range beyond(1, 16) {
			q := request(p, plain(2), 1)
			q.Batch = batch
			checkRequest(t, "batch", q, api.ErrArg)
			q.X = nil
			checkRequest(t, "batch, no words", q, api.ErrArg)
			if batch > 0 && batch < 100 {
				q.X = words(p, 2*batch, 2)
				checkRequest(t, "batch, its words", q, api.ErrArg)
			}
		}
		for _, many := range beyond(0, 8) {
			q := request(p, plain(2), 2)
			q.Retry = many
			checkRequest(t, "retry", q, api.ErrArg)
			q.Retry, q.Again = 0, many
			checkRequest(t, "again", q, api.ErrArg)
			q.Retry = many
			checkRequest(t, "retry and again", q, api.ErrArg)
		}
	}
}

// P17.3: too few words, and too many.
func TestCheckOfLengths(t *testing.T) {
	for _, p := range primes() {
		for _, axes := range [][]api.Axis{plain(1), plain(2), turnedAxes(2, 4), plain(4, 1, 2)} {
			n := product(axes)
			for _, batch := range []int{1, 2, 3, 16} {
				q := request(p, axes, batch)
				for _, many := range []int{0, 1, n - 1, n, n + 1, (batch - 1) * n, batch*n - 1, batch*n + 1, (batch + 1) * n, 2 * batch * n, batch * n * n, 16 * n, 65536} {
					want := api.ErrLen
					if many == batch*n {
						want = api.OK
					}
					q.X = words(p, many, 3)
					checkRequest(t, fmt.Sprint(many, " words"), q, want)
				}
			}
		}
		q := request(p, plain(4096), 16)
		q.X = q.X[:16*4096-1]
		checkRequest(t, "one word less", q, api.ErrLen)
		q.X = words(p, 16*4096+1, 4)
		checkRequest(t, "one word more", q, api.ErrLen)
	}
}

// P17.3: a word that is no number of P, wherever it is.
func TestCheckOfWords(t *testing.T) {
	for _, p := range primes() {
		for _, axes := range [][]api.Axis{plain(1), plain(2), turnedAxes(2, 4)} {
			for _, batch := range []int{1, 2, 16} {
				q := request(p, axes, batch)
				x := q.X
				for _, bad := range []uint64{p, p + 1, greatest - 1, greatest} {
					for at := range x {
						q.X = with(x, at, bad)
						checkRequest(t, fmt.Sprint("word ", at), q, api.ErrWord)
					}
					q.X = slices.Repeat([]uint64{bad}, len(x))
					checkRequest(t, "all words", q, api.ErrWord)
				}
			}
		}
	}
	// A number of one prime is none of another.
	q := api.Req{P: api.P1, Axes: plain(2), Batch: 1, X: []uint64{0, api.P2 - 1}, Seeds: []uint64{1}}
	checkRequest(t, "another prime's number", q, api.ErrWord)
	q.P = api.P2
	checkRequest(t, "its own prime's number", q, api.OK)
}

// P17.3: no seeds, and too many, whatever they are.
func TestCheckOfSeeds(t *testing.T) {
	for _, p := range primes() {
		for _, seeds := range [][]uint64{nil, {}, make([]uint64, 5), {1, 2, 3, 4, 5}, {1, 1, 1, 1, 1}, {greatest, p, 0, p, greatest}, make([]uint64, 8), make([]uint64, 65537)} {
			for _, batch := range []int{1, 16} {
				q := request(p, plain(2), batch)
				q.Seeds = seeds
				checkRequest(t, fmt.Sprint(len(seeds), " seeds"), q, api.ErrSeeds)
			}
		}
	}
}

// wrong is a way in which a request may be wrong; it adds to what is wrong already, and takes nothing of it back.
type wrong struct {
	name string
	turn func(q *api.Req)
	e    api.Errno
}

// axis is a way to add an axis of length n.
func axis(n int, neg bool) func(q *api.Req) {
	return func(q *api.Req) { q.Axes = append(q.Axes, api.Axis{N: n, Neg: neg}) }
}

// word is a way to put a word that is no number of P into a place, counted from the end, if it is less than 0.
func word(at int) func(q *api.Req) {
	return func(q *api.Req) {
		if len(q.X) > 0 {
			q.X[(at+len(q.X))%len(q.X)] = greatest
		}
	}
}

// wrongs are ways in which a request may be wrong, in the order in which they are told.
func wrongs() []wrong {
	return []wrong{
		{"no batch", func(q *api.Req) { q.Batch = 0 }, api.ErrArg},
		{"great batch", func(q *api.Req) { q.Batch = 17 }, api.ErrArg},
		{"greatest batch", func(q *api.Req) { q.Batch = math.MaxInt }, api.ErrArg},
		{"least batch", func(q *api.Req) { q.Batch = math.MinInt }, api.ErrArg},
		{"small retry", func(q *api.Req) { q.Retry = -1 }, api.ErrArg},
		{"great retry", func(q *api.Req) { q.Retry = 9 }, api.ErrArg},
		{"small again", func(q *api.Req) { q.Again = -1 }, api.ErrArg},
		{"great again", func(q *api.Req) { q.Again = 9 }, api.ErrArg},
		{"no prime", func(q *api.Req) { q.P = 7 }, api.ErrPrime},
		{"prime 0", func(q *api.Req) { q.P = 0 }, api.ErrPrime},
		{"axis of 0", axis(0, false), api.ErrDims},
		{"axis below 0", axis(-2, true), api.ErrDims},
		{"great axis", axis(4096, false), api.ErrDims},
		{"many axes", func(q *api.Req) { q.Axes = append(q.Axes, plain(1, 1, 1)...) }, api.ErrDims},
		{"axis of 7", axis(7, false), api.ErrSize},
		{"axis of 14", axis(14, true), api.ErrSize},
		{"axis of 9", axis(9, false), api.ErrOrder},
		{"axis of 25", axis(25, true), api.ErrOrder},
		{"no words", func(q *api.Req) { q.X = nil }, api.ErrLen},
		{"a word less", func(q *api.Req) { q.X = q.X[:max(len(q.X), 1)-1] }, api.ErrLen},
		{"a word more", func(q *api.Req) { q.X = append(q.X, 1) }, api.ErrLen},
		{"first word", word(0), api.ErrWord},
		{"last word", word(-1), api.ErrWord},
		{"no seeds", func(q *api.Req) { q.Seeds = nil }, api.ErrSeeds},
		{"many seeds", func(q *api.Req) { q.Seeds = make([]uint64, 5) }, api.ErrSeeds},
	}
}

// P17.3: each thing wrong by itself, and every two of them, whichever of both came first: that which is named first is told.
func TestCheckOfTwoThingsWrong(t *testing.T) {
	for _, p := range primes() {
		for _, batch := range []int{2, 3, 16} {
			q := request(p, []api.Axis{{N: 2, Neg: true}, {N: 4}}, batch)
			for i, first := range wrongs() {
				alone := clone(q)
				first.turn(&alone)
				checkRequest(t, first.name, alone, first.e)
				for _, second := range wrongs()[i+1:] {
					// Of two that have the same error one may take back what the other did.
					if first.e == second.e {
						continue
					}
					there, back := clone(q), clone(q)
					first.turn(&there)
					second.turn(&there)
					checkRequest(t, first.name+" and "+second.name, there, first.e)
					second.turn(&back)
					first.turn(&back)
					checkRequest(t, second.name+" and "+first.name, back, first.e)
				}
			}
		}
	}
}

// P17.3: all things wrong from one of them on.
func TestCheckOfManyThingsWrong(t *testing.T) {
	for _, p := range primes() {
		for i, first := range wrongs() {
			q := request(p, []api.Axis{{N: 2, Neg: true}, {N: 4}}, 2)
			told := map[api.Errno]bool{}
			for _, w := range wrongs()[i:] {
				if !told[w.e] {
					told[w.e] = true
					w.turn(&q)
				}
			}
			checkRequest(t, "all from "+first.name+" on", q, first.e)
		}
		// Of no axes there are no words.
		for _, x := range [][]uint64{nil, {1}} {
			q := api.Req{P: p, Batch: 1, X: x}
			checkRequest(t, "no axes", q, api.ErrDims)
			q.Batch = 0
			checkRequest(t, "no axes, no batch", q, api.ErrArg)
		}
	}
	checkRequest(t, "nothing", api.Req{}, api.ErrArg)
	checkRequest(t, "batch alone", api.Req{Batch: 1}, api.ErrPrime)
}

// P17.3: an item that there is not.
func TestItemOutside(t *testing.T) {
	for _, p := range primes() {
		for _, axes := range [][]api.Axis{plain(1), plain(2), turnedAxes(2, 4)} {
			for batch := 1; batch <= 16; batch++ {
				q := request(p, axes, batch)
				for _, i := range append(edges(batch), len(q.X), 1<<61, 1<<62, math.MaxInt/product(axes)+1) {
					if i >= 0 && i < batch {
						continue
					}
					if l, e := Item(q, i); len(l) != 0 || e != api.ErrArg {
						t.Errorf("Item %d of %d is %v, %d", i, batch, l, e)
					}
				}
			}
		}
	}
}

// P17.3: each item, and that all of them, one behind the other, are X.
func TestItems(t *testing.T) {
	for _, p := range primes() {
		eachAxes(p, func(axes []api.Axis) {
			n := product(axes)
			for _, batch := range []int{1, 2, 3, 16} {
				q := request(p, axes, batch)
				var all []uint64
				for i := range batch {
					got := mustItem(t, q, i)
					checkSame(t, fmt.Sprint("item ", i, " of ", batch), got, q.X[i*n:i*n+n])
					all = append(all, got...)
				}
				checkSame(t, fmt.Sprint("all items of ", batch), all, q.X)
			}
		})
		q := api.Req{P: p, Axes: plain(2), Batch: 3, X: []uint64{1, 2, 3, p - 1, 0, 5}, Seeds: []uint64{9}}
		checkSame(t, "the first item", mustItem(t, q, 0), []uint64{1, 2})
		checkSame(t, "the second item", mustItem(t, q, 1), []uint64{3, p - 1})
		checkSame(t, "the last item", mustItem(t, q, 2), []uint64{0, 5})
	}
}

// P17.3: as many words as there may be.
func TestGreatItems(t *testing.T) {
	for _, p := range primes() {
		for _, axes := range great(p) {
			n := product(axes)
			q := request(p, axes, 16)
			for i := range 16 {
				checkSame(t, fmt.Sprint("item ", i), mustItem(t, q, i), q.X[i*n:(i+1)*n])
			}
		}
	}
}

// done are the words x, with steps done one after the other.
func done(t *testing.T, p uint64, axes []api.Axis, inv bool, steps []api.Step, x []uint64) []uint64 {
	t.Helper()
	for _, s := range steps {
		y, e := step.Do(p, axes, inv, s, x)
		if e != api.OK {
			t.Fatalf("step.Do(%d, %v, %v, %v) has error %d", p, axes, inv, s, e)
		}
		x = y
	}
	return x
}

// checkTransform holds all steps, by Steps and by Make, against the transform.
func checkTransform(t *testing.T, p uint64, axes []api.Axis, inv bool, x []uint64) {
	t.Helper()
	want, e := grid.Do(p, axes, inv, x)
	if e != api.OK {
		t.Fatalf("grid.Do(%d, %v, %v) has error %d", p, axes, inv, e)
	}
	checkSame(t, fmt.Sprint("all steps ", p, axes, inv), done(t, p, axes, inv, mustSteps(t, p, axes, inv), x), want)
	checkSame(t, fmt.Sprint("all steps of the plan ", p, axes, inv), done(t, p, axes, inv, mustMake(t, p, axes, inv).Steps, x), want)
}

// P17.4: all steps, one after the other, are the transform.
func TestStepsAreTheTransform(t *testing.T) {
	eachKind(t, func(t *testing.T, p uint64, inv bool) {
		eachAxes(p, func(axes []api.Axis) {
			n := product(axes)
			for _, x := range [][]uint64{make([]uint64, n), slices.Repeat([]uint64{p - 1}, n), with(make([]uint64, n), 0, 1), with(make([]uint64, n), n-1, p-1), words(p, n, 5), words(p, n, 6)} {
				checkTransform(t, p, axes, inv, x)
			}
		})
	})
}

// P17.4: as many words as there may be.
func TestGreatStepsAreTheTransform(t *testing.T) {
	eachKind(t, func(t *testing.T, p uint64, inv bool) {
		for _, axes := range great(p) {
			checkTransform(t, p, axes, inv, words(p, product(axes), 7))
		}
	})
}

// P17.4: the steps of an item are its transform.
func TestStepsOfItems(t *testing.T) {
	eachKind(t, func(t *testing.T, p uint64, inv bool) {
		for _, axes := range signs(2, 1, 8) {
			q := request(p, axes, 3)
			for i := range 3 {
				checkTransform(t, q.P, q.Axes, inv, mustItem(t, q, i))
			}
		}
	})
}

// P17.4: there and back, and back and there, is what it was.
func TestThereAndBack(t *testing.T) {
	for _, p := range primes() {
		all := great(p)
		eachAxes(p, func(axes []api.Axis) { all = append(all, axes) })
		for _, axes := range all {
			x := words(p, product(axes), 8)
			for _, inv := range ways() {
				there := done(t, p, axes, inv, mustSteps(t, p, axes, inv), x)
				back := done(t, p, axes, !inv, mustSteps(t, p, axes, !inv), there)
				checkSame(t, fmt.Sprint("there and back ", p, axes, inv), back, x)
			}
		}
	}
}

// scribble writes into steps, and behind their end, where they have room there.
func scribble(l []api.Step) {
	for i := range l {
		l[i] = api.Step{Axis: -7, Twist: true, Stage: api.Stage{R: 7}}
	}
	_ = append(l, api.Step{Axis: -8})
}

// P17.1, P17.2: axes stay as they were, behind their end too; steps that are told are the caller's own.
func TestStepsToldAreNew(t *testing.T) {
	eachKind(t, func(t *testing.T, p uint64, inv bool) {
		eachAxes(p, func(some []api.Axis) {
			whole := append(slices.Clone(some), api.Axis{N: 3}, api.Axis{N: -1, Neg: true})
			kept := slices.Clone(whole)
			axes := whole[:len(some)]
			steps, plan := mustSteps(t, p, axes, inv), mustMake(t, p, axes, inv)
			want := slices.Clone(steps)
			scribble(mustSteps(t, p, axes, inv))
			scribble(mustMake(t, p, axes, inv).Steps)
			if !slices.Equal(steps, want) || !slices.Equal(plan.Steps, want) {
				t.Errorf("steps of %d, %v, %v change as those of another answer are written into", p, some, inv)
			}
			if !slices.Equal(mustSteps(t, p, axes, inv), want) || !slices.Equal(mustMake(t, p, axes, inv).Steps, want) {
				t.Errorf("steps of %d, %v, %v are others once they were written into", p, some, inv)
			}
			if !slices.Equal(whole, kept) {
				t.Errorf("Steps and Make leave axes %v, they were %v", whole, kept)
			}
			clear(whole)
			if !slices.Equal(steps, want) || !slices.Equal(plan.Steps, want) {
				t.Errorf("steps of %d, %v, %v change as the axes are written into", p, some, inv)
			}
		})
	})
}

// roomy is a request whose lists go on behind their ends.
func roomy(p uint64, axes []api.Axis, batch int) api.Req {
	q := request(p, axes, batch)
	q.Axes = append(q.Axes, api.Axis{N: 5}, api.Axis{N: 7, Neg: true})[:len(axes)]
	q.X = append(q.X, words(p, 20, 9)...)[:len(q.X)]
	q.Seeds = append(q.Seeds, 11, 12, 13)[:1]
	return q
}

// checkKept tells whether a request is as it was, behind the ends of its lists too.
func checkKept(t *testing.T, what string, q, kept api.Req) {
	t.Helper()
	checkSame(t, what+": X", q.X[:len(kept.X)], kept.X)
	checkSame(t, what+": Seeds", q.Seeds[:len(kept.Seeds)], kept.Seeds)
	if !slices.Equal(q.Axes[:len(kept.Axes)], kept.Axes) {
		t.Errorf("%s: axes are %v, they were %v", what, q.Axes[:len(kept.Axes)], kept.Axes)
	}
}

// widened is a copy of a request with what stands behind the ends of its lists too.
func widened(q api.Req) api.Req {
	q.Axes, q.X, q.Seeds = q.Axes[:cap(q.Axes)], q.X[:cap(q.X)], q.Seeds[:cap(q.Seeds)]
	return clone(q)
}

// P17.3: a request stays as it was; an item is the caller's own, and does not change if X is written into later.
func TestItemsToldAreNew(t *testing.T) {
	for _, p := range primes() {
		for _, d := range [][]int{{1}, {2}, {2, 4}, {1, 1, 1, 1}, {4, 2, 2}, {64, 64}} {
			for _, axes := range [][]api.Axis{plain(d...), turnedAxes(d...)} {
				for _, batch := range []int{1, 2, 16} {
					q := roomy(p, axes, batch)
					kept := widened(q)
					for i := range batch {
						checkItemIsNew(t, q, i)
						checkKept(t, "Item", q, kept)
					}
					Check(q)
					checkKept(t, "Check", q, kept)
					items := make([][]uint64, batch)
					for i := range items {
						items[i] = mustItem(t, q, i)
					}
					clear(q.X)
					clear(q.Axes)
					clear(q.Seeds)
					for i, l := range items {
						checkSame(t, "an item behind a request written into", l, kept.X[i*product(axes):(i+1)*product(axes)])
					}
				}
			}
		}
	}
}

// checkItemIsNew writes into one answer, and behind its end: another one, and what is told later, stay as they were.
func checkItemIsNew(t *testing.T, q api.Req, i int) {
	t.Helper()
	first, second := mustItem(t, q, i), mustItem(t, q, i)
	told := slices.Clone(first)
	for k := range second {
		second[k] = greatest
	}
	_ = append(second, greatest)
	checkSame(t, "an item, another answer written into", first, told)
	checkSame(t, "an item once more", mustItem(t, q, i), told)
}

// P17.1, P17.2, P17.3: calls that tell an error leave what is handed in as it was too.
func TestErrorsLeaveWhatIsHandedIn(t *testing.T) {
	for _, p := range primes() {
		for _, w := range wrongs() {
			q := roomy(p, []api.Axis{{N: 2, Neg: true}, {N: 4}}, 2)
			w.turn(&q)
			kept := widened(q)
			for _, inv := range ways() {
				q.Inv = inv
				Steps(q.P, q.Axes, inv)
				Make(q.P, q.Axes, inv)
				Check(q)
				for _, i := range edges(2) {
					Item(q, i)
				}
			}
			checkKept(t, w.name, q, kept)
		}
	}
}
