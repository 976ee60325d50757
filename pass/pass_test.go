package pass

import (
	"fmt"
	"math"
	"math/big"
	"math/bits"
	"slices"
	"testing"

	"bracken/api"
	"bracken/code"
	"bracken/mem"
	"bracken/step"
)

const greatest = math.MaxUint64

func primes() []uint64 { return []uint64{api.P0, api.P1, api.P2} }

func ways() []bool { return []bool{false, true} }

// strangers are no primes that are known: 0, neighbours of those that are, products, and other primes.
func strangers() []uint64 {
	l := []uint64{0, 1, 2, 3, 5, 6, 7, 17, 257, 65537, 1 << 63, greatest, api.P1 * api.P2, 469762049}
	for _, p := range primes() {
		l = append(l, p-1, p+1)
	}
	return l
}

// mul, add and pow count by p without the layers below, so that a fault of theirs would be seen too.
func mul(p, a, b uint64) uint64 {
	high, low := bits.Mul64(a, b)
	_, rest := bits.Div64(high%p, low, p)
	return rest
}

func add(p, a, b uint64) uint64 {
	low, carry := bits.Add64(a, b, 0)
	_, rest := bits.Div64(carry, low, p)
	return rest
}

func pow(p, a, n uint64) uint64 {
	product := uint64(1)
	for ; n > 0; n /= 2 {
		if n%2 == 1 {
			product = mul(p, product, a)
		}
		a = mul(p, a, a)
	}
	return product
}

// wantRoot is the root of order n, or what undoes it: of what is not 0 the power p less 2 does.
func wantRoot(p uint64, n int, inv bool) uint64 {
	generator := map[uint64]uint64{api.P0: 7, api.P1: 3, api.P2: 31}[p]
	w := pow(p, generator, (p-1)/uint64(n))
	if inv {
		w = pow(p, w, p-2)
	}
	return w
}

// stagesOf are the stages of some lengths, as they are by hand.
func stagesOf(n int) []api.Stage {
	return map[int][]api.Stage{
		1:    {},
		2:    {{R: 2, L: 1, M: 1}},
		3:    {{R: 3, L: 1, M: 1}},
		4:    {{R: 4, L: 1, M: 1}},
		5:    {{R: 5, L: 1, M: 1}},
		6:    {{R: 2, L: 1, M: 3}, {R: 3, L: 2, M: 1}},
		8:    {{R: 4, L: 1, M: 2}, {R: 2, L: 4, M: 1}},
		10:   {{R: 2, L: 1, M: 5}, {R: 5, L: 2, M: 1}},
		12:   {{R: 4, L: 1, M: 3}, {R: 3, L: 4, M: 1}},
		15:   {{R: 3, L: 1, M: 5}, {R: 5, L: 3, M: 1}},
		16:   {{R: 4, L: 1, M: 4}, {R: 4, L: 4, M: 1}},
		20:   {{R: 4, L: 1, M: 5}, {R: 5, L: 4, M: 1}},
		24:   {{R: 4, L: 1, M: 6}, {R: 2, L: 4, M: 3}, {R: 3, L: 8, M: 1}},
		30:   {{R: 2, L: 1, M: 15}, {R: 3, L: 2, M: 5}, {R: 5, L: 6, M: 1}},
		32:   {{R: 4, L: 1, M: 8}, {R: 4, L: 4, M: 2}, {R: 2, L: 16, M: 1}},
		60:   {{R: 4, L: 1, M: 15}, {R: 3, L: 4, M: 5}, {R: 5, L: 12, M: 1}},
		64:   {{R: 4, L: 1, M: 16}, {R: 4, L: 4, M: 4}, {R: 4, L: 16, M: 1}},
		120:  {{R: 4, L: 1, M: 30}, {R: 2, L: 4, M: 15}, {R: 3, L: 8, M: 5}, {R: 5, L: 24, M: 1}},
		1920: {{R: 4, L: 1, M: 480}, {R: 4, L: 4, M: 120}, {R: 4, L: 16, M: 30}, {R: 2, L: 64, M: 15}, {R: 3, L: 128, M: 5}, {R: 5, L: 384, M: 1}},
		4096: {{R: 4, L: 1, M: 1024}, {R: 4, L: 4, M: 256}, {R: 4, L: 16, M: 64}, {R: 4, L: 64, M: 16}, {R: 4, L: 256, M: 4}, {R: 4, L: 1024, M: 1}},
	}[n]
}

// twist is the twist of an axis.
func twist(axis int) api.Step { return api.Step{Axis: axis, Twist: true} }

// stagesAt are the stages of an axis, as steps.
func stagesAt(axes []api.Axis, axis int) []api.Step {
	var l []api.Step
	for _, s := range stagesOf(axes[axis].N) {
		l = append(l, api.Step{Axis: axis, Stage: s})
	}
	return l
}

// stepsOf are all steps that axes have: of each axis its twist, and its stages.
func stepsOf(axes []api.Axis) []api.Step {
	var l []api.Step
	for axis := range axes {
		l = append(append(l, twist(axis)), stagesAt(axes, axis)...)
	}
	return l
}

// plain are axes of these lengths, none of them Neg.
func plain(dims ...int) []api.Axis {
	l := make([]api.Axis, len(dims))
	for i, d := range dims {
		l[i].N = d
	}
	return l
}

// signs are axes of these lengths, with each of them Neg and not, side by side.
func signs(dims ...int) [][]api.Axis {
	l := [][]api.Axis{plain(dims...)}
	for i := range dims {
		for _, axes := range slices.Clone(l) {
			other := slices.Clone(axes)
			other[i].Neg = true
			l = append(l, other)
		}
	}
	return l
}

// product is how many words axes have that may be.
func product(axes []api.Axis) int {
	n := 1
	for _, a := range axes {
		n *= a.N
	}
	return n
}

// lengths are those of one axis that may be by p, short ones.
func lengths(p uint64) []int {
	if p == api.P1 {
		return []int{1, 2, 4, 8, 16, 32, 64}
	}
	return []int{1, 2, 3, 4, 5, 6, 8, 10, 12, 15, 16, 20, 24, 30, 32, 60, 64, 120}
}

// shapes are lengths of several axes that may be by p, with each length first, last and in the middle.
func shapes(p uint64) [][]int {
	l := [][]int{{1, 1}, {2, 4}, {8, 2}, {1, 16}, {16, 1}, {4, 4}, {2, 2, 2}, {2, 8, 4}, {4, 1, 8}, {8, 2, 1}, {2, 1, 4, 2}, {1, 4, 2, 8}, {1, 1, 1, 1}}
	if p != api.P1 {
		l = append(l, [][]int{{3, 2}, {2, 3}, {5, 3}, {6, 2}, {2, 6}, {12, 5}, {2, 6, 3}, {6, 4, 5}, {3, 5, 6}, {2, 3, 1, 5}, {3, 2, 6, 2}}...)
	}
	return l
}

// eachAxes goes through axes that may be by p: one of each length, and several.
func eachAxes(p uint64, do func(axes []api.Axis)) {
	dims := shapes(p)
	for _, n := range lengths(p) {
		dims = append(dims, []int{n})
	}
	for _, d := range dims {
		for _, axes := range signs(d...) {
			do(axes)
		}
	}
}

// eachStep goes through all steps of those axes.
func eachStep(p uint64, do func(axes []api.Axis, s api.Step)) {
	eachAxes(p, func(axes []api.Axis) {
		for _, s := range stepsOf(axes) {
			do(axes, s)
		}
	})
}

// eachKind runs a test of each prime, there and back, side by side.
func eachKind(t *testing.T, run func(t *testing.T, p uint64, inv bool)) {
	for _, p := range primes() {
		for _, inv := range ways() {
			t.Run(fmt.Sprintf("%d/%v", p, inv), func(t *testing.T) {
				t.Parallel()
				run(t, p, inv)
			})
		}
	}
}

// words are n numbers of p by a fixed rule, others for each salt; 0 and p less 1 are among them.
func words(p uint64, n int, salt uint64) []uint64 {
	l := make([]uint64, n)
	state := salt*2 + 1
	for i := range l {
		state = state*6364136223846793005 + 1442695040888963407
		l[i] = (state ^ state>>29) % p
		switch state >> 60 {
		case 0:
			l[i] = 0
		case 1:
			l[i] = p - 1
		case 2:
			l[i] %= 10
		}
	}
	return l
}

// with is l with another word in one place.
func with(l []uint64, at int, w uint64) []uint64 {
	other := slices.Clone(l)
	other[at] = w
	return other
}

// wantTable goes by the document's words: each factor is a power by itself.
func wantTable(p uint64, axes []api.Axis, inv bool, s api.Step) []uint64 {
	a := axes[s.Axis]
	var l []uint64
	if s.Twist {
		for j := range a.N {
			f := uint64(1)
			if a.Neg {
				f = pow(p, wantRoot(p, 2*a.N, inv), uint64(j))
			}
			if inv {
				f = mul(p, f, pow(p, uint64(a.N), p-2))
			}
			l = append(l, f)
		}
		return l
	}
	w := wantRoot(p, s.Stage.R*s.Stage.M, inv)
	for a := range s.Stage.M {
		for u := range s.Stage.R {
			l = append(l, pow(p, w, uint64(a*u)))
		}
	}
	return l
}

// coords are the coordinates of all words in order of their places, the last one fastest.
func coords(axes []api.Axis) [][]int {
	if len(axes) == 0 {
		return [][]int{nil}
	}
	var l [][]int
	for _, c := range coords(axes[:len(axes)-1]) {
		for last := range axes[len(axes)-1].N {
			l = append(l, append(slices.Clone(c), last))
		}
	}
	return l
}

// linesOf are the lines of an axis, in order of their first places: a word opens a line, if its coordinate is 0, and else stands in that of its other coordinates.
func linesOf(axes []api.Axis, axis int) [][]int {
	var l [][]int
	at := map[string]int{}
	for place, c := range coords(axes) {
		others := fmt.Sprint(slices.Delete(slices.Clone(c), axis, axis+1))
		if c[axis] == 0 {
			at[others] = len(l)
			l = append(l, nil)
		}
		l[at[others]] = append(l[at[others]], place)
	}
	return l
}

// wantGroups goes by the document's words.
func wantGroups(axes []api.Axis, s api.Step) []api.Group {
	var l []api.Group
	if s.Twist {
		for place, c := range coords(axes) {
			l = append(l, api.Group{In: []int{place}, Fac: []int{c[s.Axis]}, Out: []int{place}})
		}
		return l
	}
	r, below, m := s.Stage.R, s.Stage.L, s.Stage.M
	for _, line := range linesOf(axes, s.Axis) {
		for a := range m {
			for b := range below {
				var g api.Group
				for t := range r {
					g.In = append(g.In, line[b+below*(a+m*t)])
				}
				for u := range r {
					g.Fac = append(g.Fac, a*r+u)
					g.Out = append(g.Out, line[b+below*(r*a+u)])
				}
				l = append(l, g)
			}
		}
	}
	return l
}

// wantDo is, of each group, the sum of all words by powers of the radix's root, and the factor.
func wantDo(p uint64, axes []api.Axis, inv bool, s api.Step, x []uint64) []uint64 {
	y := make([]uint64, len(x))
	table := wantTable(p, axes, inv, s)
	for _, g := range wantGroups(axes, s) {
		for u, out := range g.Out {
			word := uint64(0)
			for t, in := range g.In {
				by := uint64(1)
				if !s.Twist {
					by = pow(p, wantRoot(p, s.Stage.R, inv), uint64(t*u))
				}
				word = add(p, word, mul(p, x[in], by))
			}
			y[out] = mul(p, word, table[g.Fac[u]])
		}
	}
	return y
}

// wantSums are the sum of all words, and that of all words times their places, counted from 1.
func wantSums(p uint64, l []uint64) [2]uint64 {
	var sums [2]uint64
	for i, w := range l {
		sums[0] = add(p, sums[0], w)
		sums[1] = add(p, sums[1], mul(p, w, uint64(i)+1))
	}
	return sums
}

// checkSame tells the first word that differs, since there may be many.
func checkSame(t *testing.T, what string, got, want []uint64) {
	t.Helper()
	if len(got) != len(want) {
		t.Errorf("%s: %d words, want %d", what, len(got), len(want))
		return
	}
	for i := range got {
		if got[i] != want[i] {
			t.Errorf("%s: word %d is %d, want %d", what, i, got[i], want[i])
			return
		}
	}
}

// off are numbers beside n, near and far.
func off(n int) []int {
	return []int{n - 1, n + 1, -n - 1, n + 1<<32, math.MinInt, math.MaxInt}
}

// plainMemory is a memory, and what strikes it, as the document words it: without the layers below.
type plainMemory struct {
	words  []uint64
	events []api.Event // those that have not struck yet
	ticks  int
}

// strike lets strike what is due; what is put over a word turns the Mask's bits.
func (m *plainMemory) strike(due func(api.Event) bool) {
	var later []api.Event
	for _, e := range m.events {
		switch {
		case !due(e):
			later = append(later, e)
		case e.Addr >= 0 && e.Addr < len(m.words):
			m.words[e.Addr] ^= e.Mask
		}
	}
	m.events = later
}

func (m *plainMemory) access() {
	m.strike(func(e api.Event) bool { return e.Tick <= m.ticks })
	m.ticks++
}

func (m *plainMemory) load(at int) uint64 {
	m.access()
	return m.words[at]
}

func (m *plainMemory) store(at int, w uint64) {
	m.access()
	m.words[at] = w
}

// end lets strike what is left when the window ends.
func (m *plainMemory) end() {
	m.strike(func(api.Event) bool { return true })
}

// call is what Run is handed beside the memory.
type call struct {
	p             uint64
	axes          []api.Axis
	inv           bool
	s             api.Step
	src, dst, tab int
}

func (c call) run(m *mem.Mem) ([2]uint64, api.Errno) {
	return Run(m, c.p, c.axes, c.inv, c.s, c.src, c.dst, c.tab)
}

func (c call) String() string {
	return fmt.Sprintf("Run(%d, %v, %v, %v, %d, %d, %d)", c.p, c.axes[:min(len(c.axes), 6)], c.inv, c.s, c.src, c.dst, c.tab)
}

// n is how many words the axes have, factors how many the step has.
func (c call) n() int { return product(c.axes) }

func (c call) factors() int {
	if c.s.Twist {
		return c.axes[c.s.Axis].N
	}
	return c.s.R * c.s.M
}

// out is word u of what comes of a group's words ahead of their factors.
func (c call) out(in []uint64, u int) uint64 {
	if c.s.Twist {
		return in[u]
	}
	sum := uint64(0)
	for t, w := range in {
		sum = add(c.p, sum, mul(c.p, w, pow(c.p, wantRoot(c.p, c.s.R, c.inv), uint64(t*u))))
	}
	return sum
}

// byHand does the step in the order that the document words.
func (c call) byHand(m *plainMemory) [2]uint64 {
	x := make([]uint64, c.n())
	for _, g := range wantGroups(c.axes, c.s) {
		var in, fac []uint64
		for _, place := range g.In {
			x[place] = m.load(c.src+place) % c.p
			in = append(in, x[place])
		}
		for _, place := range g.Fac {
			fac = append(fac, m.load(c.tab+place)%c.p)
		}
		for u, place := range g.Out {
			m.store(c.dst+place, mul(c.p, c.out(in, u), fac[u]))
		}
	}
	sums := wantSums(c.p, wantDo(c.p, c.axes, c.inv, c.s, x))
	for i, sum := range []uint64{sums[0], sums[0], sums[0], sums[1], sums[1], sums[1]} {
		m.store(c.dst+c.n()+i, sum)
	}
	return sums
}

// any64 are n whole words by a fixed rule, numbers of whichever prime or not.
func any64(n int, salt uint64) []uint64 {
	l := make([]uint64, n)
	state := salt*2 + 77
	for i := range l {
		state = state*6364136223846793005 + 1442695040888963407
		l[i] = state ^ state>>31
		if state>>61 == 0 {
			l[i] = greatest
		}
	}
	return l
}

// memory is one with these words, at the begin of a window with these events.
func memory(t *testing.T, laid []uint64, events []api.Event) *mem.Mem {
	t.Helper()
	m, e := mem.New(len(laid), nil)
	if e != api.OK {
		t.Fatalf("no memory of %d words: %d", len(laid), e)
	}
	for i, w := range laid {
		if e := m.Store(i, w); e != api.OK {
			t.Fatalf("no word %d of %d: %d", i, len(laid), e)
		}
	}
	if e := m.Next(events); e != api.OK {
		t.Fatalf("%d events: error %d", len(events), e)
	}
	return m
}

// laidOut are total words: x at src, the table at tab, whatever words elsewhere.
func (c call) laidOut(total int, x, table []uint64) []uint64 {
	l := any64(total, uint64(total))
	copy(l[c.src:], x)
	copy(l[c.tab:], table)
	return l
}

// checkWords holds a memory against one that was gone through by hand, also when the window has ended.
func checkWords(t *testing.T, what string, m *mem.Mem, by *plainMemory) {
	t.Helper()
	if m.Ticks() != by.ticks {
		t.Errorf("%s: %d accesses, want %d", what, m.Ticks(), by.ticks)
	}
	checkSame(t, what, m.Words(), by.words)
	m.Next(nil)
	by.end()
	checkSame(t, what+", the window ended", m.Words(), by.words)
}

// checkRun holds calls in one window, one behind the other, against the document's order.
func checkRun(t *testing.T, laid []uint64, events []api.Event, calls ...call) {
	t.Helper()
	m := memory(t, laid, events)
	by := &plainMemory{words: slices.Clone(laid), events: slices.Clone(events)}
	what := fmt.Sprint(calls, " of ", len(laid), " words")
	if len(events) < 4 {
		what += fmt.Sprint(", struck by ", events)
	}
	ticks := 0
	for _, c := range calls {
		want := c.byHand(by)
		if sums, e := c.run(m); sums != want || e != api.OK {
			t.Errorf("%s: sums %v, error %d, want %v", what, sums, e, want)
		}
		ticks += 3*c.n() + 6
	}
	if by.ticks != ticks {
		t.Fatalf("%s: by hand %d accesses, want %d", what, by.ticks, ticks)
	}
	checkWords(t, what, m, by)
}

// apart is the call of a step whose three places lie apart, with a word ahead, between and behind that is none of them, in this order of src, dst and tab; behind them so many words are left.
func apart(p uint64, axes []api.Axis, inv bool, s api.Step, order string, left int) (call, int) {
	c := call{p: p, axes: axes, inv: inv, s: s}
	at := 1
	for _, name := range order {
		switch name {
		case 's':
			c.src = at
			at += c.n() + 7
		case 'd':
			c.dst = at
			at += c.n() + 7
		case 't':
			c.tab = at
			at += c.factors() + 1
		}
	}
	return c, at - 1 + left
}

// orders are all orders in which three places may lie.
func orders() []string { return []string{"sdt", "std", "dst", "dts", "tsd", "tds"} }

// few are axes of few words, which have twists, Neg or not, and stages of each radix that the prime has.
func few(p uint64) [][]api.Axis {
	l := [][]api.Axis{
		{{N: 1}}, {{N: 1, Neg: true}}, {{N: 2}}, {{N: 2, Neg: true}}, {{N: 4, Neg: true}}, {{N: 8}},
		{{N: 2, Neg: true}, {N: 2}}, {{N: 2}, {N: 4, Neg: true}}, {{N: 4}, {N: 1, Neg: true}}, {{N: 2}, {N: 1}, {N: 2}, {N: 2, Neg: true}},
	}
	if p != api.P1 {
		l = append(l, [][]api.Axis{{{N: 3, Neg: true}}, {{N: 5}}, {{N: 6, Neg: true}}, {{N: 2}, {N: 3}}, {{N: 5}, {N: 2, Neg: true}}}...)
	}
	return l
}

// eachFew goes through all steps of few.
func eachFew(p uint64, do func(axes []api.Axis, s api.Step)) {
	for _, axes := range few(p) {
		for _, s := range stepsOf(axes) {
			do(axes, s)
		}
	}
}

// someInts are numbers that are near to 0, to n, to n less half, and to the ends of all ints.
func someInts(n int) []int {
	l := []int{math.MinInt, math.MinInt + 1, math.MinInt + n, math.MinInt + n + 1, -1 << 32, -n - 1, -n, -2, -1, 0, 1, 2, n / 2, n - n/2, 1 << 32, 1<<32 + n, math.MaxInt / 2, math.MaxInt/2 + 1, math.MaxInt - n - 1, math.MaxInt - n, math.MaxInt - 1, math.MaxInt}
	for i := -3; i <= 3; i++ {
		l = append(l, n+i)
	}
	return l
}

// wantThere asks it of the whole numbers, of places that end where the memory does, or ahead of that.
func wantThere(all, at, many int) bool {
	end := new(big.Int).Add(big.NewInt(int64(at)), big.NewInt(int64(many)))
	return at >= 0 && many >= 0 && end.Cmp(big.NewInt(int64(all))) <= 0
}

// P18.1: whatever is asked of memories of few words, and of as many as there may be; asking is no access, and nothing strikes.
func TestThere(t *testing.T) {
	for _, all := range []int{1, 2, 3, 7, 12, 4096, 16383, 16384} {
		event := []api.Event{{Addr: all - 1, Mask: 5}, {Tick: -1, Addr: 0, Mask: 8}}
		m, e := mem.New(all, event)
		if e != api.OK {
			t.Fatalf("no memory of %d words: %d", all, e)
		}
		for _, at := range someInts(all) {
			for _, many := range someInts(all) {
				if got, want := There(m, at, many), wantThere(all, at, many); got != want {
					t.Errorf("There of %d words, at %d, %d of them, is %v, want %v", all, at, many, got, want)
				}
			}
		}
		if m.Ticks() != 0 || m.All() != 0 {
			t.Errorf("There of %d words made %d accesses", all, m.All())
		}
		checkSame(t, "There", m.Words(), make([]uint64, all))
	}
}

// P18.1: each place and each number of few words.
func TestThereOfFew(t *testing.T) {
	for all := 1; all <= 9; all++ {
		m := memory(t, make([]uint64, all), nil)
		for at := -3; at < 13; at++ {
			for many := -3; many < 13; many++ {
				// Places are there, if each of them is one to load from; of none that is so, as far as the end.
				want := at >= 0 && many >= 0 && at <= all
				for place := at; place < at+many; place++ {
					want = want && place < all
				}
				if got := There(m, at, many); got != want {
					t.Errorf("There of %d words, at %d, %d of them, is %v", all, at, many, got)
				}
			}
		}
	}
}

// P18.1: a nil memory has no places, not even none; one that New has not made has none of its no words.
func TestThereOfNone(t *testing.T) {
	for _, at := range someInts(0) {
		for _, many := range someInts(0) {
			if There(nil, at, many) {
				t.Errorf("There of no memory, at %d, %d of them", at, many)
			}
			if got := There(&mem.Mem{}, at, many); got != (at == 0 && many == 0) {
				t.Errorf("There of a memory that has no words, at %d, %d of them, is %v", at, many, got)
			}
		}
	}
}

// P18.1: what is asked is asked of the memory as a whole, whatever it was asked for before, and in whichever window.
func TestThereLater(t *testing.T) {
	c, total := apart(api.P0, plain(4), false, twist(0), "sdt", 0)
	m := memory(t, any64(total, 1), []api.Event{{Tick: 2, Addr: 1, Mask: 1}})
	for range 3 {
		if _, e := c.run(m); e != api.OK {
			t.Fatalf("%v has error %d", c, e)
		}
		if !There(m, 0, total) || !There(m, total, 0) || There(m, 1, total) || There(m, 0, total+1) || There(m, total+1, 0) {
			t.Errorf("There of %d words is told otherwise behind a Run", total)
		}
		m.Next(nil)
	}
}

// checkError wants an error, and that nothing was done in the memory: an event that is due at once did not strike yet.
func checkError(t *testing.T, c call, want api.Errno, m *mem.Mem) {
	t.Helper()
	ticks, all, before := m.Ticks(), m.All(), m.Words()
	sums, e := c.run(m)
	if e != want || sums != [2]uint64{} {
		t.Errorf("%v of %d words is %v, %d, want %d", c, len(before), sums, e, want)
	}
	if m.Ticks() != ticks || m.All() != all {
		t.Errorf("%v of %d words has error %d, and %d accesses", c, len(before), e, m.All()-all)
	}
	checkSame(t, c.String()+" has an error", m.Words(), before)
}

// memories are none, one without words, and some with an event that is due at once.
func memories(t *testing.T) []*mem.Mem {
	l := []*mem.Mem{nil, {}}
	for _, many := range []int{1, 8, 60} {
		l = append(l, memory(t, any64(many, 3), []api.Event{{Tick: 0, Addr: 0, Mask: 1}, {Tick: -9, Addr: many - 1, Mask: greatest}}))
	}
	return l
}

// checkStepError wants an error of the step, whichever the memory is, and wherever the places are.
func checkStepError(t *testing.T, l []*mem.Mem, p uint64, axes []api.Axis, s api.Step, want api.Errno) {
	t.Helper()
	for _, m := range l {
		for _, inv := range ways() {
			for _, at := range [][3]int{{0, 20, 40}, {0, 0, 0}, {-1, 20, 40}, {0, math.MaxInt, 40}, {0, 20, 61}, {math.MinInt, -1, math.MaxInt}} {
				checkError(t, call{p, axes, inv, s, at[0], at[1], at[2]}, want, m)
			}
		}
	}
}

// P18.2: the prime, the axes and the step are asked first, in this order, ahead of the memory and the places.
func TestErrorsOfStep(t *testing.T) {
	two := api.Stage{R: 2, L: 1, M: 1}
	l := memories(t)
	for _, s := range []api.Step{twist(0), {Stage: two}, {}, twist(1), twist(-1), {Twist: true, Stage: two}} {
		for _, p := range strangers() {
			for _, axes := range [][]api.Axis{plain(2), nil, plain(7), plain(9), plain(4096, 4096)} {
				checkStepError(t, l, p, axes, s, api.ErrPrime)
			}
		}
		for _, p := range primes() {
			for _, d := range [][]int{nil, {0}, {-1}, {math.MinInt}, {4097}, {2, 0}, {64, 65}, {1 << 32, 1 << 32}, {1, 1, 1, 1, 1}, {7, 0}, {9, 4096}} {
				checkStepError(t, l, p, plain(d...), s, api.ErrDims)
			}
			for _, d := range [][]int{{7}, {4095}, {2, 7}, {9, 7}, {7, 9}} {
				checkStepError(t, l, p, plain(d...), s, api.ErrSize)
			}
			for _, d := range [][]int{{9}, {25}, {2, 9}, {1, 1, 1, 18}} {
				checkStepError(t, l, p, plain(d...), s, api.ErrOrder)
			}
		}
		checkStepError(t, l, api.P1, plain(3), s, api.ErrOrder)
		checkStepError(t, l, api.P1, []api.Axis{{N: 2}, {N: 5, Neg: true}}, s, api.ErrOrder)
	}
}

// P18.2: a step that is none of the axes.
func TestErrorsOfOtherSteps(t *testing.T) {
	l := memories(t)
	for _, p := range []uint64{api.P0, api.P2} {
		for _, axes := range signs(2, 6) {
			for _, s := range []api.Step{
				{}, {Axis: 1}, twist(2), twist(-1), twist(math.MaxInt), twist(math.MinInt), {Axis: 2, Stage: api.Stage{R: 2, L: 1, M: 1}},
				{Stage: api.Stage{R: 3, L: 2, M: 1}}, {Axis: 1, Stage: api.Stage{R: 2, L: 1, M: 1}}, {Axis: 1, Stage: api.Stage{R: 3, L: 1, M: 2}},
				{Twist: true, Stage: api.Stage{R: 2, L: 1, M: 1}}, {Axis: 1, Twist: true, Stage: api.Stage{L: 1}},
			} {
				checkStepError(t, l, p, axes, s, api.ErrArg)
			}
		}
	}
}

// P18.2: places that are not there, each of src, dst and tab alone, and several at once; those that just are.
func TestPlaces(t *testing.T) {
	for _, p := range primes() {
		eachFew(p, func(axes []api.Axis, s api.Step) {
			const total = 40
			c := call{p: p, axes: axes, s: s}
			need, factors := c.n()+6, c.factors()
			around := func(many int) []int {
				return []int{0, total - many, -1, -many, math.MinInt, total - many + 1, total, total + 1, math.MaxInt - many, math.MaxInt - many + 1, math.MaxInt}
			}
			for _, c.src = range around(need) {
				for _, c.dst = range around(need) {
					for _, c.tab = range around(factors) {
						m := memory(t, any64(total, 5), []api.Event{{Addr: 1, Mask: 1}})
						if wantThere(total, c.src, need) && wantThere(total, c.dst, need) && wantThere(total, c.tab, factors) {
							if _, e := c.run(m); e != api.OK {
								t.Errorf("%v of %d words has error %d", c, total, e)
							}
						} else {
							checkError(t, c, api.ErrArg, m)
						}
					}
				}
			}
		})
	}
}

// P18.2: no memory, and one without words, have no places, wherever they are asked for.
func TestPlacesOfNone(t *testing.T) {
	for _, p := range primes() {
		eachFew(p, func(axes []api.Axis, s api.Step) {
			for _, inv := range ways() {
				for _, at := range []int{0, 1, -1, -needed(axes), math.MinInt, math.MaxInt} {
					for _, m := range []*mem.Mem{nil, {}} {
						checkError(t, call{p, axes, inv, s, at, at, at}, api.ErrArg, m)
						checkError(t, call{p, axes, inv, s, 0, at, 0}, api.ErrArg, m)
					}
				}
			}
		})
	}
}

// needed is how many places the words of axes, and their six cells, need.
func needed(axes []api.Axis) int { return product(axes) + 6 }

// P18.2: a memory that is just as long as the words and six cells are, and one that is a word shorter.
func TestPlacesJustThere(t *testing.T) {
	eachKind(t, func(t *testing.T, p uint64, inv bool) {
		eachFew(p, func(axes []api.Axis, s api.Step) {
			c := call{p: p, axes: axes, inv: inv, s: s}
			checkRun(t, any64(needed(axes), 6), nil, c)
			checkError(t, c, api.ErrArg, memory(t, any64(needed(axes)-1, 6), nil))
			c.dst = 1
			checkError(t, c, api.ErrArg, memory(t, any64(needed(axes), 6), nil))
			checkRun(t, any64(needed(axes)+1, 6), nil, c)
			for _, order := range orders() {
				c, total := apart(p, axes, inv, s, order, 0)
				checkRun(t, any64(total, 6), nil, c)
				checkError(t, c, api.ErrArg, memory(t, any64(total-1, 6), nil))
			}
		})
	})
}

// stroke is what strikes, and what the words are behind it that it changed, if any.
type stroke struct {
	tick, addr int
	mask       uint64
	changed    map[int]uint64
	sums       [2]uint64
}

// checkStrokes goes through strokes, each by itself; without one the words are those laid, and want from dst on.
func checkStrokes(t *testing.T, c call, laid, want []uint64, l []stroke) {
	t.Helper()
	for _, x := range l {
		m := memory(t, laid, []api.Event{{Tick: x.tick, Addr: x.addr, Mask: x.mask}})
		sums, e := c.run(m)
		words := slices.Clone(laid)
		copy(words[c.dst:], want)
		for place, w := range x.changed {
			words[place] = w
		}
		if e != api.OK || sums != x.sums || m.Ticks() != 12 {
			t.Errorf("%v, struck by %v: %v, %d, %d accesses", c, x, sums, e, m.Ticks())
		}
		checkSame(t, fmt.Sprint(c, " struck by ", x), m.Words(), words)
	}
}

// P18.2: a stage of two words, by hand, struck at each of its 12 accesses ahead of what is done, and behind it.
func TestStageByHand(t *testing.T) {
	for _, p := range primes() {
		c := call{p: p, axes: plain(2), s: api.Step{Stage: api.Stage{R: 2, L: 1, M: 1}}, src: 0, dst: 8, tab: 16}
		laid := make([]uint64, 20)
		laid[0], laid[1], laid[16], laid[17] = 3, 5, 1, 1
		want := []uint64{8, p - 2, 6, 6, 6, 4, 4, 4}
		sums := [2]uint64{6, 4}
		checkStrokes(t, c, laid, want, []stroke{
			{0, 19, 0, nil, sums},
			{0, 0, 1, map[int]uint64{0: 2, 8: 7, 9: p - 3, 10: 4, 11: 4, 12: 4, 13: 1, 14: 1, 15: 1}, [2]uint64{4, 1}},
			{1, 0, 1, map[int]uint64{0: 2}, sums},
			{1, 1, 1, map[int]uint64{1: 4, 8: 7, 9: p - 1, 13: 5, 14: 5, 15: 5}, [2]uint64{6, 5}},
			{2, 1, 1, map[int]uint64{1: 4}, sums},
			{2, 16, 2, map[int]uint64{16: 3, 8: 24}, sums},
			{3, 16, 2, map[int]uint64{16: 3}, sums},
			{3, 17, 2, map[int]uint64{17: 3, 9: p - 6}, sums},
			{4, 17, 2, map[int]uint64{17: 3}, sums},
			{4, 8, 1, nil, sums},
			{5, 8, 1, map[int]uint64{8: 9}, sums},
			{5, 9, 1, nil, sums},
			{6, 9, 1, map[int]uint64{9: (p - 2) ^ 1}, sums},
			{6, 10, 1, nil, sums},
			{7, 10, 1, map[int]uint64{10: 7}, sums},
			{7, 11, 1, nil, sums},
			{8, 11, 1, map[int]uint64{11: 7}, sums},
			{8, 12, 1, nil, sums},
			{9, 12, 1, map[int]uint64{12: 7}, sums},
			{9, 13, 1, nil, sums},
			{10, 13, 1, map[int]uint64{13: 5}, sums},
			{10, 14, 1, nil, sums},
			{11, 14, 1, map[int]uint64{14: 5}, sums},
			{11, 15, 1, nil, sums},
			{12, 15, 1, nil, sums},
			{12, 0, 1, nil, sums},
		})
	}
}

// P18.2: a twist of two words, by hand: word, factor and store of the first, and then those of the second one.
func TestTwistByHand(t *testing.T) {
	for _, p := range primes() {
		c := call{p: p, axes: plain(2), s: twist(0), src: 8, dst: 0, tab: 18}
		laid := make([]uint64, 20)
		laid[8], laid[9], laid[18], laid[19] = 3, 5, 1, 1
		want := []uint64{3, 5, 8, 8, 8, 13, 13, 13}
		sums := [2]uint64{8, 13}
		checkStrokes(t, c, laid, want, []stroke{
			{0, 8, 4, map[int]uint64{8: 7, 0: 7, 2: 12, 3: 12, 4: 12, 5: 17, 6: 17, 7: 17}, [2]uint64{12, 17}},
			{1, 8, 4, map[int]uint64{8: 7}, sums},
			{1, 18, 4, map[int]uint64{18: 5, 0: 15}, sums},
			{2, 18, 4, map[int]uint64{18: 5}, sums},
			{2, 0, 4, nil, sums},
			{3, 0, 4, map[int]uint64{0: 7}, sums},
			{3, 9, 2, map[int]uint64{9: 7, 1: 7, 2: 10, 3: 10, 4: 10, 5: 17, 6: 17, 7: 17}, [2]uint64{10, 17}},
			{4, 9, 2, map[int]uint64{9: 7}, sums},
			{4, 19, 4, map[int]uint64{19: 5, 1: 25}, sums},
			{5, 19, 4, map[int]uint64{19: 5}, sums},
			{5, 1, 2, nil, sums},
			{6, 1, 2, map[int]uint64{1: 7}, sums},
			{-1, 8, 4, map[int]uint64{8: 7, 0: 7, 2: 12, 3: 12, 4: 12, 5: 17, 6: 17, 7: 17}, [2]uint64{12, 17}},
			{0, -1, 4, nil, sums},
			{0, 20, 4, nil, sums},
		})
	}
}

// P18.2: places that lie over one another, by hand.
func TestOverByHand(t *testing.T) {
	for _, p := range primes() {
		two := api.Step{Stage: api.Stage{R: 2, L: 1, M: 1}}
		for _, x := range []struct {
			c          call
			laid, want []uint64
			sums       [2]uint64
		}{
			{call{p: p, axes: plain(2), s: two, tab: 8}, []uint64{3, 5, 9, 9, 9, 9, 9, 9, 1, 1}, []uint64{8, p - 2, 6, 6, 6, 4, 4, 4, 1, 1}, [2]uint64{6, 4}},
			// Word 1 is where word 0 was stored: 3 times 2, and that times 7.
			{call{p: p, axes: plain(2), s: twist(0), dst: 1, tab: 9}, []uint64{3, 5, 9, 9, 9, 9, 9, 9, 9, 2, 7}, []uint64{3, 6, 42, 9, 9, 9, 15, 15, 15, 2, 7}, [2]uint64{9, 15}},
			// Factor 1 is where word 0 was stored: 3 times 2, and 5 times that.
			{call{p: p, axes: plain(2), s: twist(0), dst: 3, tab: 2}, []uint64{3, 5, 2, 9, 9, 9, 9, 9, 9, 9, 9}, []uint64{3, 5, 2, 6, 30, 8, 8, 8, 13, 13, 13}, [2]uint64{8, 13}},
			// Words are factors too: 3 and 5, each times itself.
			{call{p: p, axes: plain(2), s: twist(0), dst: 8}, []uint64{3, 5, 9, 9, 9, 9, 9, 9, 1, 1, 1, 1, 1, 1, 1, 1}, []uint64{3, 5, 9, 9, 9, 9, 9, 9, 9, 25, 8, 8, 8, 13, 13, 13}, [2]uint64{8, 13}},
			// All three are one: a word is its own factor ahead of what is stored there.
			{call{p: p, axes: plain(2), s: two}, []uint64{3, 5, 9, 9, 9, 9, 9, 9}, []uint64{24, mul(p, p-2, 5), 6, 6, 6, 4, 4, 4}, [2]uint64{6, 4}},
			// The sums come to stand over src and tab, when those are done with.
			{call{p: p, axes: plain(2), s: two, src: 2, tab: 6}, []uint64{9, 9, 3, 5, 9, 9, 1, 1, 7, 7}, []uint64{8, p - 2, 6, 6, 6, 4, 4, 4, 7, 7}, [2]uint64{6, 4}},
		} {
			m := memory(t, x.laid, nil)
			if sums, e := x.c.run(m); sums != x.sums || e != api.OK {
				t.Errorf("%v is %v, %d, want %v", x.c, sums, e, x.sums)
			}
			checkSame(t, x.c.String(), m.Words(), x.want)
		}
	}
}

// P18.2, P18.3: the words that each step of many axes makes, wherever the three places are.
func TestRunOfEachStep(t *testing.T) {
	eachKind(t, func(t *testing.T, p uint64, inv bool) {
		which := 0
		eachStep(p, func(axes []api.Axis, s api.Step) {
			which++
			c, total := apart(p, axes, inv, s, orders()[which%6], which%2)
			checkRun(t, c.laidOut(total, words(p, c.n(), uint64(which)), wantTable(p, axes, inv, s)), nil, c)
		})
	})
}

// P18.2: one event at each single tick, at each single word.
func TestEachTick(t *testing.T) {
	eachKind(t, func(t *testing.T, p uint64, inv bool) {
		which := 0
		eachFew(p, func(axes []api.Axis, s api.Step) {
			which++
			c, total := apart(p, axes, inv, s, orders()[which%6], which%2)
			laid := c.laidOut(total, words(p, c.n(), 2), wantTable(p, axes, inv, s))
			mask := any64(1, uint64(which))[0] | 1
			for tick := range 3*c.n() + 8 {
				for addr := range total {
					checkRun(t, laid, []api.Event{{Tick: tick, Addr: addr, Mask: mask}}, c)
				}
			}
		})
	})
}

// someEvents strike at mixed ticks, some ahead of all, some behind, and at mixed places, some of them none; the last bits of masks are enough for some words to stay numbers of each prime.
func someEvents(many, ticks, total int, salt uint64) []api.Event {
	l := make([]api.Event, many)
	for i, w := range any64(many, salt) {
		l[i] = api.Event{Item: 3, Try: -1, Win: 9, Tick: int(w>>8%uint64(ticks+6)) - 3, Addr: int(w>>32%uint64(total+2)) - 1, Mask: w >> (w % 64)}
	}
	return l
}

// P18.2: many events at once, in each step, once and twice in one window.
func TestManyEvents(t *testing.T) {
	eachKind(t, func(t *testing.T, p uint64, inv bool) {
		which := 0
		eachStep(p, func(axes []api.Axis, s api.Step) {
			which++
			c, total := apart(p, axes, inv, s, orders()[which%6], 1)
			laid := c.laidOut(total, words(p, c.n(), 3), wantTable(p, axes, inv, s))
			ticks := 3*c.n() + 6
			checkRun(t, laid, someEvents(12, ticks, total, uint64(which)), c)
			back := c
			back.src, back.dst = c.dst, c.src
			checkRun(t, laid, someEvents(20, 2*ticks, total, uint64(which)), c, back)
		})
	})
}

// P18.2: words and factors that are no numbers of the prime are taken by it, and what is stored are numbers of it.
func TestRunOfNoNumbers(t *testing.T) {
	eachKind(t, func(t *testing.T, p uint64, inv bool) {
		eachFew(p, func(axes []api.Axis, s api.Step) {
			c, total := apart(p, axes, inv, s, "sdt", 0)
			for salt, bad := range []uint64{p, p + 1, 2*p - 1, greatest - 1, greatest, 1 << 63} {
				x, table := words(p, c.n(), uint64(salt)), wantTable(p, axes, inv, s)
				for _, laid := range [][]uint64{
					c.laidOut(total, slices.Repeat([]uint64{bad}, c.n()), table),
					c.laidOut(total, x, slices.Repeat([]uint64{bad}, len(table))),
					c.laidOut(total, with(x, c.n()-1, bad), table),
					c.laidOut(total, with(x, 0, bad), with(table, len(table)-1, bad)),
					any64(total, uint64(salt)),
					slices.Repeat([]uint64{bad}, total),
				} {
					checkRun(t, laid, nil, c)
					m := memory(t, laid, nil)
					c.run(m)
					for i, w := range m.Words()[c.dst : c.dst+c.n()+6] {
						if w >= p {
							t.Errorf("%v stores %d as word %d", c, w, i)
						}
					}
				}
			}
		})
	})
}

// P18.2: the sums are those of step.Predict of the words, whatever stands in the table, and they are what is told.
func TestSumsArePredicted(t *testing.T) {
	eachKind(t, func(t *testing.T, p uint64, inv bool) {
		eachStep(p, func(axes []api.Axis, s api.Step) {
			c, total := apart(p, axes, inv, s, "tds", 0)
			x := words(p, c.n(), 4)
			want, e := step.Predict(p, axes, inv, s, x)
			if e != api.OK {
				t.Fatalf("step.Predict(%d, %v, %v, %v) has error %d", p, axes, inv, s, e)
			}
			for salt, table := range [][]uint64{wantTable(p, axes, inv, s), make([]uint64, c.factors()), any64(c.factors(), 8)} {
				m := memory(t, c.laidOut(total, x, table), nil)
				if sums, e := c.run(m); sums != want || e != api.OK {
					t.Errorf("%v, table %d, is %v, %d, want %v", c, salt, sums, e, want)
				}
				cells := m.Words()[c.dst+c.n() : c.dst+c.n()+6]
				checkSame(t, fmt.Sprint(c, " cells, table ", salt), cells, []uint64{want[0], want[0], want[0], want[1], want[1], want[1]})
			}
		})
	})
}

// P18.2: the three places at whichever places of a short memory, over one another or not.
func TestOverOneAnother(t *testing.T) {
	eachKind(t, func(t *testing.T, p uint64, inv bool) {
		eachFew(p, func(axes []api.Axis, s api.Step) {
			c := call{p: p, axes: axes, inv: inv, s: s}
			total := needed(axes) + 3
			if c.n() < 5 {
				total = 2*needed(axes) - 4
			}
			for src := 0; src+needed(axes) <= total; src++ {
				for dst := 0; dst+needed(axes) <= total; dst++ {
					for tab := 0; tab+c.factors() <= total; tab++ {
						c.src, c.dst, c.tab = src, dst, tab
						checkRun(t, any64(total, uint64(tab)), nil, c)
					}
				}
			}
		})
	})
}

// P18.2: events at places that lie over one another.
func TestStruckOverOneAnother(t *testing.T) {
	eachKind(t, func(t *testing.T, p uint64, inv bool) {
		eachFew(p, func(axes []api.Axis, s api.Step) {
			c := call{p: p, axes: axes, inv: inv, s: s}
			total := needed(axes) + 2
			for salt := range uint64(60) {
				at := any64(3, salt)
				c.src, c.dst, c.tab = int(at[0]%3), int(at[1]%3), int(at[2]%uint64(total-c.factors()+1))
				checkRun(t, any64(total, salt), someEvents(6, 3*c.n()+6, total, salt), c)
			}
		})
	})
}

// great are axes of as many words as there may be, or nearly.
func great(p uint64) [][]api.Axis {
	l := [][]api.Axis{{{N: 4096, Neg: true}}, {{N: 64, Neg: true}, {N: 64}}, {{N: 16}, {N: 2}, {N: 16, Neg: true}, {N: 8}}}
	if p != api.P1 {
		l = append(l, []api.Axis{{N: 1920, Neg: true}, {N: 2}})
	}
	return l
}

// P18.2, P18.3: as many words as there may be, in a memory of as many words as there may be.
func TestGreatRuns(t *testing.T) {
	eachKind(t, func(t *testing.T, p uint64, inv bool) {
		for _, axes := range great(p) {
			for i, s := range stepsOf(axes) {
				c, total := apart(p, axes, inv, s, orders()[i%6], 0)
				laid := c.laidOut(total, words(p, c.n(), uint64(i)), wantTable(p, axes, inv, s))
				checkRun(t, laid, someEvents(i%2*40, 3*c.n()+6, total, uint64(i)), c)
			}
		}
		c := call{p, plain(4096), inv, twist(0), 16384 - 4102, 4096, 16384 - 4096}
		checkRun(t, any64(16384, 1), nil, c)
		c.tab++
		checkError(t, c, api.ErrArg, memory(t, any64(16384, 1), nil))
	})
}

// P18.3: without events, and with the step's factors, the codeword of what the step makes of the words stands at dst, and no other word is changed; there are three accesses a word, and six.
func TestRunMakesCodewords(t *testing.T) {
	eachKind(t, func(t *testing.T, p uint64, inv bool) {
		eachStep(p, func(axes []api.Axis, s api.Step) {
			for i, order := range orders() {
				c, total := apart(p, axes, inv, s, order, 1)
				x := words(p, c.n(), uint64(i))
				table, e := step.Table(p, axes, inv, s)
				y, f := step.Do(p, axes, inv, s, x)
				want, g := code.Put(p, y)
				if e != api.OK || f != api.OK || g != api.OK {
					t.Fatalf("%v: errors %d, %d, %d", c, e, f, g)
				}
				laid := c.laidOut(total, x, table)
				m := memory(t, laid, nil)
				sums, e := c.run(m)
				if e != api.OK || sums != [2]uint64{want[c.n()], want[c.n()+3]} || m.Ticks() != 3*c.n()+6 || m.All() != total+m.Ticks() {
					t.Errorf("%v is %v, %d, after %d accesses", c, sums, e, m.Ticks())
				}
				copy(laid[c.dst:], want)
				checkSame(t, c.String(), m.Words(), laid)
				if well, e := code.Look(p, m.Words()[c.dst:c.dst+c.n()+6]); !well || e != api.OK {
					t.Errorf("%v makes no codeword", c)
				}
			}
		})
	})
}

// P18.3: of one word there are 9 accesses, of two 12, of 4096 12294.
func TestAccesses(t *testing.T) {
	for _, p := range primes() {
		for _, x := range []struct{ n, ticks int }{{1, 9}, {2, 12}, {4, 18}, {64, 198}, {4096, 12294}} {
			for _, s := range stepsOf(plain(x.n)) {
				m := memory(t, any64(16384, 2), nil)
				c := call{p, plain(x.n), false, s, 0, 5000, 10000}
				if _, e := c.run(m); e != api.OK || m.Ticks() != x.ticks {
					t.Errorf("%v has error %d, %d accesses, want %d", c, e, m.Ticks(), x.ticks)
				}
			}
		}
	}
}

// P18.3: all steps of an axis, one behind the other from one place to the other, are there and back what it was.
func TestThereAndBackInMemory(t *testing.T) {
	for _, p := range primes() {
		for _, axes := range few(p) {
			n := product(axes)
			m := memory(t, any64(3*n+20, 9), nil)
			x := words(p, n, 5)
			places := [2]int{0, n + 6}
			for i, w := range x {
				m.Store(i, w)
			}
			run := func(inv bool, s api.Step) {
				t.Helper()
				table, _ := step.Table(p, axes, inv, s)
				for i, w := range table {
					m.Store(2*n+12+i, w)
				}
				c := call{p, axes, inv, s, places[0], places[1], 2*n + 12}
				if _, e := c.run(m); e != api.OK {
					t.Fatalf("%v has error %d", c, e)
				}
				places[0], places[1] = places[1], places[0]
			}
			for axis := range axes {
				for _, s := range append([]api.Step{twist(axis)}, stagesAt(axes, axis)...) {
					run(false, s)
				}
				for _, s := range append(stagesAt(axes, axis), twist(axis)) {
					run(true, s)
				}
				checkSame(t, fmt.Sprint("there and back ", p, axes, axis), m.Words()[places[0]:places[0]+n], x)
			}
		}
	}
}

// P18.2: the axes stay as they were, behind their end too, with an error or without; what is told does not hang on other memories or earlier calls.
func TestAxesStay(t *testing.T) {
	for _, p := range append(primes(), 6) {
		for _, d := range [][]int{{1}, {2}, {8}, {2, 4}, {1, 1, 1, 1}, {7}, {9}, {0}} {
			for _, inv := range ways() {
				whole := append(plain(d...), api.Axis{N: 3}, api.Axis{N: -1, Neg: true})
				kept := slices.Clone(whole)
				for _, s := range []api.Step{twist(0), {}, {Stage: api.Stage{R: 2, L: 1, M: 1}}} {
					for _, m := range append(memories(t), memory(t, any64(16384, 4), nil)) {
						c := call{p, whole[:len(d)], inv, s, 0, 20, 40}
						first, e := c.run(m)
						if !slices.Equal(whole, kept) {
							t.Fatalf("%v leaves axes %v, they were %v", c, whole, kept)
						}
						// Of the same words the same comes, and src is not stored into.
						if e == api.OK && product(c.axes) < 14 && len(m.Words()) > 60 {
							if second, f := c.run(m); second != first || f != api.OK {
								t.Errorf("%v is %v, and then %v, %d", c, first, second, f)
							}
						}
					}
				}
			}
		}
	}
}
