package script

import (
	"cmp"
	"fmt"
	"math"
	"math/big"
	"slices"
	"testing"

	"bracken/api"
)

const most, least = math.MaxInt, math.MinInt

// ints are numbers of all kinds that a place, a window or a tick may be.
func ints() []int {
	return []int{0, 1, 2, 3, 5, -1, -2, 1023, 1024, 16383, 16384, 1 << 31, 1<<32 + 1, -1 << 32, 1 << 62, most - 1, most, least, least + 1}
}

// chance tells numbers by a fixed rule, so that each run has the same.
type chance uint64

func (c *chance) next(below int) int {
	*c = *c*6364136223846793005 + 1442695040888963407
	return int((uint64(*c) >> 33) % uint64(below))
}

// event is one of few numbers, so that many of a list have some in common; its Mask tells it from all others.
func (c *chance) event(id int) api.Event {
	near := []int{0, 1, 2, -1, most, least}
	return api.Event{Item: near[c.next(3)], Try: near[c.next(3)], Win: near[c.next(6)], Tick: near[c.next(6)], Addr: c.next(7) - 1, Mask: uint64(id) + 1}
}

func (c *chance) events(many int) []api.Event {
	l := make([]api.Event, many)
	for i := range l {
		l[i] = c.event(i)
	}
	return l
}

func (c *chance) words(many int) []uint64 {
	l := make([]uint64, many)
	for i := range l {
		l[i] = uint64(c.next(1<<31)) << 32 >> uint(c.next(33))
	}
	return l
}

// shuffled are the same events in another order.
func (c *chance) shuffled(l []api.Event) []api.Event {
	l = slices.Clone(l)
	for i := range l {
		j := c.next(i + 1)
		l[i], l[j] = l[j], l[i]
	}
	return l
}

// same are many events that are all v.
func same(many int, v api.Event) []api.Event { return slices.Repeat([]api.Event{v}, many) }

// wins are events of one try in these windows.
func wins(at ...int) []api.Event {
	l := make([]api.Event, len(at))
	for i, w := range at {
		l[i] = api.Event{Item: 2, Try: 1, Win: w, Tick: i, Addr: i, Mask: uint64(i)}
	}
	return l
}

// orders are l in each order that it may stand in.
func orders(l []api.Event) [][]api.Event {
	if len(l) == 0 {
		return [][]api.Event{nil}
	}
	var all [][]api.Event
	for i, v := range l {
		for _, rest := range orders(slices.Delete(slices.Clone(l), i, i+1)) {
			all = append(all, append([]api.Event{v}, rest...))
		}
	}
	return all
}

// wantOf has the events of a window by the words of the document: each stands behind all those that have a lesser Tick, or the same and stand ahead of it in l.
func wantOf(l []api.Event, item, try, win int) []api.Event {
	in := func(v api.Event) bool { return v.Item == item && v.Try == try && v.Win == win }
	var own []api.Event
	for _, v := range l {
		if in(v) {
			own = append(own, v)
		}
	}
	placed := make([]api.Event, len(own))
	for i, v := range own {
		ahead := 0
		for j, other := range own {
			if other.Tick < v.Tick || other.Tick == v.Tick && j < i {
				ahead++
			}
		}
		placed[ahead] = v
	}
	return placed
}

// wantSparse holds each event against each, by whole numbers of any length.
func wantSparse(l []api.Event) bool {
	for i, a := range l {
		for _, b := range l[:i] {
			apart := new(big.Int).Sub(big.NewInt(int64(a.Win)), big.NewInt(int64(b.Win)))
			if a.Item == b.Item && a.Try == b.Try && apart.CmpAbs(big.NewInt(2)) < 0 {
				return false
			}
		}
	}
	return true
}

// wantStrike looks for each word at all events.
func wantStrike(l []api.Event, words []uint64) []uint64 {
	struck := make([]uint64, len(words))
	for at, w := range words {
		for _, v := range l {
			if v.Addr == at {
				w ^= v.Mask
			}
		}
		struck[at] = w
	}
	return struck
}

// wantQuiet goes through all places that are there, of few words.
func wantQuiet(l []api.Event, words int) bool {
	for at := range words {
		for _, v := range l {
			if v.Addr == at && v.Mask != 0 {
				return false
			}
		}
	}
	return true
}

func checkOf(t *testing.T, l []api.Event, item, try, win int, want ...api.Event) {
	t.Helper()
	if got, e := Of(l, item, try, win); !slices.Equal(got, want) || e != api.OK {
		t.Errorf("Of %d events, item %d, try %d, window %d: got %v, %d, want %v", len(l), item, try, win, got, e, want)
	}
}

func checkSparse(t *testing.T, l []api.Event, want bool) {
	t.Helper()
	if got, e := Sparse(l); got != want || e != api.OK {
		t.Errorf("Sparse of %v is %v, %d, want %v", l, got, e, want)
	}
}

func checkQuiet(t *testing.T, l []api.Event, words int, want bool) {
	t.Helper()
	if got, e := Quiet(l, words); got != want || e != api.OK {
		t.Errorf("Quiet of %v, %d words, is %v, %d, want %v", l, words, got, e, want)
	}
}

func checkStrike(t *testing.T, l []api.Event, words, want []uint64) {
	t.Helper()
	if got, e := Strike(l, words); !slices.Equal(got, want) || e != api.OK {
		t.Errorf("Strike of %d events, %d words: got %v, %d, want %v", len(l), len(words), short(got), e, short(want))
	}
}

// short is how much of a list a message has.
func short(l []uint64) string {
	return fmt.Sprintf("%d words, %d", len(l), l[:min(len(l), 8)])
}

// P10.1: how many events there are is all that may be wrong with them.
func TestCheck(t *testing.T) {
	for _, many := range []int{0, 1, 2, 3, 1023, 1024} {
		if e := Check(make([]api.Event, many)); e != api.OK {
			t.Errorf("Check of %d events is %d", many, e)
		}
	}
	for _, many := range []int{1025, 1026, 2048, 16385, 65537} {
		if e := Check(make([]api.Event, many)); e != api.ErrArg {
			t.Errorf("Check of %d events is %d", many, e)
		}
	}
	if e := Check(make([]api.Event, 1024, 4096)); e != api.OK {
		t.Errorf("Check of 1024 events with room behind them is %d", e)
	}
}

// P10.1: an event may have whatever numbers.
func TestCheckOfWhateverNumbers(t *testing.T) {
	for _, n := range ints() {
		for _, mask := range []uint64{0, 1, 1 << 63, math.MaxUint64} {
			v := api.Event{Item: n, Try: n, Win: n, Tick: n, Addr: n, Mask: mask}
			for _, many := range []int{1, 2, 1024} {
				if e := Check(same(many, v)); e != api.OK {
					t.Errorf("Check of %d times %v is %d", many, v, e)
				}
			}
		}
	}
}

// P10.1 to P10.3: of one event more than there may be each call tells the error, and all else is zero, where without it there would be something to tell.
func TestTooManyEvents(t *testing.T) {
	for _, many := range []int{1025, 1026, 5000} {
		spread := make([]api.Event, many)
		for i := range spread {
			spread[i].Item = i
		}
		for name, l := range map[string][]api.Event{
			"zero":     make([]api.Event, many),
			"sparse":   spread,
			"striking": same(many, api.Event{Mask: 1}),
			"idle":     same(many, api.Event{Addr: -1, Mask: 1}),
		} {
			if e := Check(l); e != api.ErrArg {
				t.Errorf("%s, %d: Check is %d", name, many, e)
			}
			if got, e := Of(l, 0, 0, 0); len(got) != 0 || e != api.ErrArg {
				t.Errorf("%s, %d: Of is %v, %d", name, many, got, e)
			}
			if got, e := Of(l, 9, 9, 9); len(got) != 0 || e != api.ErrArg {
				t.Errorf("%s, %d: Of a window without events is %v, %d", name, many, got, e)
			}
			if got, e := Sparse(l); got || e != api.ErrArg {
				t.Errorf("%s, %d: Sparse is %v, %d", name, many, got, e)
			}
			for _, words := range []int{least, -1, 0, 1, 16384, 16385, most} {
				if got, e := Quiet(l, words); got || e != api.ErrArg {
					t.Errorf("%s, %d: Quiet of %d words is %v, %d", name, many, words, got, e)
				}
			}
			for _, words := range []int{0, 1, 4, 16384, 16385} {
				if got, e := Strike(l, make([]uint64, words)); len(got) != 0 || e != api.ErrArg {
					t.Errorf("%s, %d: Strike of %d words is %s, %d", name, many, words, short(got), e)
				}
			}
		}
	}
}

// P10.1 to P10.3: as many events as there may be are all looked at, the first and the last too.
func TestAsManyEventsAsMayBe(t *testing.T) {
	l := make([]api.Event, 1024)
	for i := range l {
		l[i] = api.Event{Win: 2 * i, Tick: -i, Addr: i, Mask: uint64(i) + 1}
	}
	words := make([]uint64, 1024)
	want := make([]uint64, 1024)
	for i := range want {
		want[i] = uint64(i) + 1
	}
	checkSparse(t, l, true)
	checkStrike(t, l, words, want)
	for _, i := range []int{0, 1, 511, 1022, 1023} {
		checkOf(t, l, 0, 0, 2*i, l[i])
		checkOf(t, l, 0, 0, 2*i+1)
		near := slices.Clone(l)
		near[i].Win++
		checkSparse(t, near, i == 1023)
		near[i].Win -= 2
		checkSparse(t, near, i == 0)
		idle := same(1024, api.Event{Addr: 1024, Mask: 1})
		checkQuiet(t, idle, 1024, true)
		idle[i].Addr = 7
		checkQuiet(t, idle, 1024, false)
	}
	all := same(1024, api.Event{Item: 4, Try: 5, Win: 6})
	for i := range all {
		all[i].Tick, all[i].Addr = 1024-i, i
	}
	turned := slices.Clone(all)
	slices.Reverse(turned)
	checkOf(t, all, 4, 5, 6, turned...)
	checkOf(t, turned, 4, 5, 6, turned...)
}

// P10.1 to P10.3: without events there is nothing to tell, nothing that is near, and nothing that is done.
func TestNoEvents(t *testing.T) {
	for _, l := range [][]api.Event{nil, {}, make([]api.Event, 0, 8)} {
		if e := Check(l); e != api.OK {
			t.Errorf("Check is %d", e)
		}
		for _, n := range ints() {
			checkOf(t, l, n, n, n)
			checkQuiet(t, l, n, true)
		}
		checkSparse(t, l, true)
		checkStrike(t, l, nil, nil)
		checkStrike(t, l, []uint64{5, 0, math.MaxUint64}, []uint64{5, 0, math.MaxUint64})
	}
}

// P10.1: an Item, a Try and a Win that no event has, that one has, that several have, and that all have.
func TestOfWrittenOut(t *testing.T) {
	a := api.Event{Item: 1, Try: 2, Win: 3, Tick: 7, Addr: 5, Mask: 9}
	b := api.Event{Item: 1, Try: 2, Win: 3, Tick: 2, Addr: 6, Mask: 0}
	c := api.Event{Item: 2, Try: 2, Win: 3, Tick: 1, Addr: -1, Mask: 1}
	d := api.Event{Item: 1, Try: 3, Win: 3, Tick: 0, Addr: 0, Mask: 2}
	e := api.Event{Item: 1, Try: 2, Win: 4, Tick: -8, Addr: 4, Mask: 3}
	l := []api.Event{c, a, d, b, e}
	checkOf(t, l, 1, 2, 3, b, a)
	checkOf(t, l, 2, 2, 3, c)
	checkOf(t, l, 1, 3, 3, d)
	checkOf(t, l, 1, 2, 4, e)
	checkOf(t, []api.Event{a, b, a}, 1, 2, 3, b, a, a)
	checkOf(t, []api.Event{a}, 1, 2, 3, a)
	for _, x := range [][3]int{{0, 2, 3}, {3, 2, 3}, {1, 1, 3}, {1, 4, 3}, {1, 2, 2}, {1, 2, 5}, {2, 1, 3}, {2, 3, 3}, {2, 2, 4}, {1, 3, 4}, {3, 2, 1}, {2, 3, 4}, {-1, -2, -3}, {0, 0, 0}} {
		checkOf(t, l, x[0], x[1], x[2])
	}
}

// P10.1: each of the three numbers is asked for by itself, whatever int it is.
func TestOfWhateverNumbers(t *testing.T) {
	for _, n := range ints() {
		for _, other := range ints() {
			v, w := api.Event{Item: n, Try: n, Win: n, Tick: n, Addr: n, Mask: 1}, api.Event{Item: other, Try: other, Win: other, Mask: 2}
			if n == other {
				checkOf(t, []api.Event{v}, n, n, n, v)
				continue
			}
			l := []api.Event{v, w}
			checkOf(t, l, n, n, n, v)
			checkOf(t, l, other, other, other, w)
			checkOf(t, l, other, n, n)
			checkOf(t, l, n, other, n)
			checkOf(t, l, n, n, other)
			checkOf(t, l, n, other, other)
			checkOf(t, l, other, n, other)
			checkOf(t, l, other, other, n)
		}
	}
}

// P10.1: Ticks that stand in order, the other way round, and anyhow, the greatest and the least among them.
func TestOfInOrderOfTicks(t *testing.T) {
	ticks := ints()
	slices.Sort(ticks)
	l := make([]api.Event, len(ticks))
	for i, tick := range ticks {
		l[i] = api.Event{Tick: tick, Addr: i}
	}
	checkOf(t, l, 0, 0, 0, l...)
	turned := slices.Clone(l)
	slices.Reverse(turned)
	checkOf(t, turned, 0, 0, 0, l...)
	c := chance(1)
	for range 100 {
		checkOf(t, c.shuffled(l), 0, 0, 0, l...)
	}
	for i := range l {
		for j := range i {
			checkOf(t, []api.Event{l[i], l[j]}, 0, 0, 0, l[j], l[i])
			checkOf(t, []api.Event{l[j], l[i]}, 0, 0, 0, l[j], l[i])
		}
	}
}

// P10.1: those of one Tick stay as they stand, of few events and of so many that only a stable order keeps them, whatever their other numbers are.
func TestOfOneTick(t *testing.T) {
	for _, many := range []int{2, 3, 12, 13, 50, 1024} {
		for _, kinds := range []int{1, 2, 3, 7} {
			l := make([]api.Event, many)
			for i := range l {
				l[i] = api.Event{Tick: -(i % kinds), Addr: -i, Mask: uint64(many - i)}
			}
			var want []api.Event
			for k := range kinds {
				for _, v := range l {
					if v.Tick == k+1-kinds {
						want = append(want, v)
					}
				}
			}
			checkOf(t, l, 0, 0, 0, want...)
		}
	}
}

// P10.1: events that are the same in all numbers are told as often as they stand in l.
func TestOfTheSameEvents(t *testing.T) {
	v := api.Event{Item: 3, Try: 1, Win: -4, Tick: 6, Addr: 2, Mask: 8}
	late := v
	late.Tick++
	for _, many := range []int{1, 2, 3, 20, 1023} {
		l := same(many, v)
		checkOf(t, l, 3, 1, -4, l...)
		checkOf(t, append([]api.Event{late}, l...), 3, 1, -4, append(slices.Clone(l), late)...)
	}
}

// P10.1: Of against the definition, event by event.
func TestOfByDefinition(t *testing.T) {
	c := chance(2)
	for _, many := range []int{1, 2, 5, 20, 100, 400, 1024} {
		for range 5 {
			l := c.events(many)
			for _, item := range []int{0, 1, 2, 3} {
				for _, try := range []int{-1, 0, 1, 2} {
					for _, win := range []int{0, 1, 2, 3, -1, most, least} {
						checkOf(t, l, item, try, win, wantOf(l, item, try, win)...)
					}
				}
			}
		}
	}
}

// P10.2: the examples of the document, and one event alone, which is near to none.
func TestSparseWrittenOut(t *testing.T) {
	checkSparse(t, wins(3, 4), false)
	checkSparse(t, wins(3, 5), true)
	for _, w := range ints() {
		checkSparse(t, wins(w), true)
		checkSparse(t, wins(w, w), false)
	}
	checkSparse(t, wins(0, 2, 4, 6, 8), true)
	checkSparse(t, wins(0, 2, 4, 6, 7), false)
	checkSparse(t, wins(-1, 1), true)
	checkSparse(t, wins(-1, 0), false)
	checkSparse(t, wins(0, 1), false)
	checkSparse(t, wins(1, 100, -100), true)
	checkSparse(t, wins(1, 100, 1), false)
}

// P10.2: what two windows differ by is asked of the whole numbers that they are.
func TestSparseOfEachTwoWindows(t *testing.T) {
	at := append(ints(), most-2, most-3, least+2, least+3, 4, -3, 1<<62+1, 1<<62+2, 1<<32, 1<<32+3)
	for _, a := range at {
		for _, b := range at {
			far := new(big.Int).Sub(big.NewInt(int64(a)), big.NewInt(int64(b))).CmpAbs(big.NewInt(2)) >= 0
			checkSparse(t, wins(a, b), far)
		}
	}
	checkSparse(t, wins(most, least), true)
	checkSparse(t, wins(least, most), true)
	checkSparse(t, wins(most, most-1), false)
	checkSparse(t, wins(least, least+1), false)
	checkSparse(t, wins(least, 0, most), true)
	checkSparse(t, wins(least, most, 0, -1), false)
	checkSparse(t, wins(least, 0, most, least+1), false)
	checkSparse(t, wins(most-1, least, 0, most), false)
}

// P10.2: two that are near need not stand side by side, nor in order.
func TestSparseInWhateverOrder(t *testing.T) {
	for _, x := range []struct {
		at  []int
		far bool
	}{
		{[]int{10, 0, 20, 5, 12}, true},
		{[]int{10, 0, 20, 5, 11}, false},
		{[]int{10, 0, 20, 5, 10}, false},
		{[]int{most, 0, least, 5, most - 1}, false},
		{[]int{most, 0, least, 5, most - 2}, true},
	} {
		for _, l := range orders(wins(x.at...)) {
			checkSparse(t, l, x.far)
		}
	}
}

// P10.2: windows of other items, and of other tries, are not near, even if all their numbers together make the same.
func TestSparseOfOtherTries(t *testing.T) {
	for _, a := range ints() {
		for _, b := range ints() {
			l := []api.Event{{Item: a, Try: b, Win: 3}, {Item: b, Try: a, Win: 3}}
			checkSparse(t, l, a != b)
			l[1].Win = 4
			checkSparse(t, l, a != b)
			l[1].Win = 5
			checkSparse(t, l, true)
			checkSparse(t, []api.Event{{Item: a, Win: 7}, {Item: b, Win: 7}}, a != b)
			checkSparse(t, []api.Event{{Try: a, Win: 7}, {Try: b, Win: 6}}, a != b)
		}
	}
	near := []api.Event{{Item: 1, Win: 3}, {Item: 2, Win: 3}, {Try: 1, Win: 3}, {Try: 2, Win: 4}, {Item: 1, Try: 1, Win: 3}, {Item: 11, Win: 3}, {Try: 11, Win: 3}, {Item: 1 << 32, Win: 3}, {Try: 1 << 32, Win: 3}}
	checkSparse(t, near, true)
	for i := range near {
		again := near[i]
		again.Win++
		checkSparse(t, append(slices.Clone(near), again), false)
		again.Win++
		checkSparse(t, append(slices.Clone(near), again), true)
	}
}

// P10.2: neither when, nor where, nor with what an event strikes counts, nor whether it does anything.
func TestSparseAsksForWindowsAlone(t *testing.T) {
	v := api.Event{Item: 1, Try: 1, Win: 1, Tick: 1, Addr: 1, Mask: 1}
	for _, n := range ints() {
		for _, other := range []api.Event{{Tick: n, Addr: 1, Mask: 1}, {Tick: 1, Addr: n, Mask: 1}, {Tick: 1, Addr: 1, Mask: uint64(n)}, {Tick: n, Addr: n, Mask: 0}} {
			other.Item, other.Try = 1, 1
			for _, at := range []int{0, 1, 2} {
				other.Win = at
				checkSparse(t, []api.Event{v, other}, false)
			}
			for _, at := range []int{-1, 3} {
				other.Win = at
				checkSparse(t, []api.Event{v, other}, true)
			}
		}
	}
	checkSparse(t, same(2, v), false)
	checkSparse(t, same(1024, v), false)
	checkSparse(t, make([]api.Event, 2), false)
}

// P10.2: Sparse against the definition, each event against each, with many tries and with few.
func TestSparseByDefinition(t *testing.T) {
	c := chance(3)
	told := map[bool]int{}
	for round := range 4000 {
		l := make([]api.Event, 2+round%12)
		for i := range l {
			l[i] = api.Event{Item: c.next(3), Try: c.next(2), Win: c.next(40) - 20}
		}
		want := wantSparse(l)
		told[want]++
		checkSparse(t, l, want)
	}
	if told[true] < 500 || told[false] < 500 {
		t.Errorf("too few of one kind: %v", told)
	}
}

// P10.2: of an event that strikes at Addr it is asked whether such a place is there.
func TestQuietOfEachPlace(t *testing.T) {
	for _, words := range []int{1, 2, 3, 100, 16384, 16385, 1 << 40, most - 1, most} {
		for _, mask := range []uint64{1, 2, 1 << 63, math.MaxUint64} {
			for _, at := range []int{0, words / 2, words - 1} {
				checkQuiet(t, []api.Event{{Addr: at, Mask: mask}}, words, false)
				checkQuiet(t, []api.Event{{Addr: at}}, words, true)
			}
			for _, at := range []int{-1, -words, least, least + 1} {
				checkQuiet(t, []api.Event{{Addr: at, Mask: mask}}, words, true)
			}
			checkQuiet(t, []api.Event{{Addr: words, Mask: mask}}, words, true)
			checkQuiet(t, []api.Event{{Addr: most, Mask: mask}}, words, true)
		}
	}
}

// P10.2: of no words, and of fewer than none, no event does anything.
func TestQuietOfNoWords(t *testing.T) {
	var l []api.Event
	for _, at := range ints() {
		l = append(l, api.Event{Addr: at, Mask: math.MaxUint64})
	}
	for _, words := range []int{0, -1, -2, -16384, -1 << 32, least + 1, least} {
		for _, v := range l {
			checkQuiet(t, []api.Event{v}, words, true)
		}
		checkQuiet(t, l, words, true)
		checkQuiet(t, []api.Event{{Addr: words, Mask: 1}}, words, true)
		checkQuiet(t, []api.Event{{Addr: words - 1, Mask: 1}}, words, true)
	}
}

// P10.2: Mask 0 does nothing, wherever it is; when an event strikes does not count.
func TestQuietOfNoMask(t *testing.T) {
	for _, n := range ints() {
		for _, words := range append(ints(), 4) {
			checkQuiet(t, []api.Event{{Item: n, Try: n, Win: n, Tick: n, Addr: n}}, words, true)
		}
		checkQuiet(t, []api.Event{{Item: n, Try: n, Win: n, Tick: n, Addr: 3, Mask: 1}}, 4, false)
		checkQuiet(t, []api.Event{{Item: n, Try: n, Win: n, Tick: n, Addr: 4, Mask: 1}}, 4, true)
	}
}

// P10.2: one event that does something, at whichever place of l, is enough; two that undo each other each do something.
func TestQuietOfSeveral(t *testing.T) {
	idle := []api.Event{{Addr: 0}, {Addr: -1, Mask: 1}, {Addr: 4, Mask: 1}, {Addr: 3}, {Addr: most, Mask: 7}, {Addr: least, Mask: 7}}
	checkQuiet(t, idle, 4, true)
	for i := range len(idle) + 1 {
		checkQuiet(t, slices.Insert(slices.Clone(idle), i, api.Event{Addr: 3, Mask: 1}), 4, false)
		checkQuiet(t, slices.Insert(slices.Clone(idle), i, api.Event{Addr: 0, Mask: 1}), 4, false)
	}
	checkQuiet(t, same(2, api.Event{Addr: 1, Mask: 6}), 4, false)
	c := chance(4)
	for round := range 1000 {
		l := c.events(1 + round%6)
		for i := range l {
			l[i].Mask *= uint64(c.next(2))
		}
		for words := range 8 {
			checkQuiet(t, l, words, wantQuiet(l, words))
		}
	}
}

// P10.3: a Mask is put over a word by exclusive or, at its Addr alone.
func TestStrikeWrittenOut(t *testing.T) {
	words := []uint64{3, 5, 0, math.MaxUint64}
	checkStrike(t, []api.Event{{Addr: 1, Mask: 4}}, words, []uint64{3, 1, 0, math.MaxUint64})
	checkStrike(t, []api.Event{{Addr: 0, Mask: 1}}, words, []uint64{2, 5, 0, math.MaxUint64})
	checkStrike(t, []api.Event{{Addr: 3, Mask: 1}}, words, []uint64{3, 5, 0, math.MaxUint64 - 1})
	checkStrike(t, []api.Event{{Addr: 3, Mask: math.MaxUint64}}, words, []uint64{3, 5, 0, 0})
	checkStrike(t, []api.Event{{Addr: 2, Mask: 1 << 63}}, words, []uint64{3, 5, 1 << 63, math.MaxUint64})
	checkStrike(t, []api.Event{{Addr: 1, Mask: 4}, {Addr: 1, Mask: 6}, {Addr: 0, Mask: 8}, {Addr: 1, Mask: 1}}, words, []uint64{11, 6, 0, math.MaxUint64})
	checkStrike(t, []api.Event{{Addr: 1, Mask: 4}, {Addr: 1, Mask: 4}}, words, words)
	checkStrike(t, same(3, api.Event{Addr: 1, Mask: 4}), words, []uint64{3, 1, 0, math.MaxUint64})
	checkStrike(t, same(1024, api.Event{Addr: 2, Mask: 9}), words, words)
	checkStrike(t, same(1023, api.Event{Addr: 2, Mask: 9}), words, []uint64{3, 5, 9, math.MaxUint64})
	checkStrike(t, []api.Event{{Addr: 0, Mask: 12}}, []uint64{10}, []uint64{6})
}

// P10.3: events that do nothing are passed over, and those behind them strike.
func TestStrikeOfIdleEvents(t *testing.T) {
	words := []uint64{1, 2, 3}
	var l []api.Event
	for _, at := range ints() {
		l = append(l, api.Event{Addr: at})
		if at < 0 || at >= len(words) {
			l = append(l, api.Event{Addr: at, Mask: math.MaxUint64})
			checkStrike(t, []api.Event{{Addr: at, Mask: 1}}, words, words)
			checkStrike(t, []api.Event{{Addr: at, Mask: 1}, {Addr: 2, Mask: 1}}, words, []uint64{1, 2, 2})
		}
	}
	checkStrike(t, l, words, words)
	checkStrike(t, l, nil, nil)
	for i := range len(l) + 1 {
		checkStrike(t, slices.Insert(slices.Clone(l), i, api.Event{Addr: 2, Mask: 4}), words, []uint64{1, 2, 7})
	}
	for _, n := range ints() {
		checkStrike(t, []api.Event{{Item: n, Try: n, Win: n, Tick: n, Addr: 0, Mask: 2}}, words, []uint64{3, 2, 3})
	}
}

// P10.3: no words, as many as there may be, and one more.
func TestStrikeOfNoneAndOfTooManyWords(t *testing.T) {
	l := []api.Event{{Addr: 0, Mask: 1}, {Addr: 16383, Mask: 2}, {Addr: 16384, Mask: 4}, {Addr: -1, Mask: 8}}
	for _, none := range [][]uint64{nil, {}, make([]uint64, 0, 5)} {
		checkStrike(t, l, none, nil)
		checkStrike(t, nil, none, nil)
	}
	c := chance(5)
	words := c.words(16385)
	checkStrike(t, nil, words[:16384], words[:16384])
	want := slices.Clone(words[:16384])
	want[0] ^= 1
	want[16383] ^= 2
	checkStrike(t, l, words[:16384], want)
	checkStrike(t, l[:1], words[:16383], want[:16383])
	for _, events := range [][]api.Event{nil, l, l[2:], make([]api.Event, 1), make([]api.Event, 1024), make([]api.Event, 1025)} {
		for _, many := range []int{16385, 16386, 65536} {
			if got, e := Strike(events, make([]uint64, many)); len(got) != 0 || e != api.ErrArg {
				t.Errorf("Strike of %d events, %d words is %s, %d", len(events), many, short(got), e)
			}
		}
	}
}

// P10.3: Strike against the definition, word by word.
func TestStrikeByDefinition(t *testing.T) {
	c := chance(6)
	for _, many := range []int{0, 1, 2, 3, 10, 100, 1024} {
		for words := range 9 {
			for range 5 {
				l, w := c.events(many), c.words(words)
				checkStrike(t, l, w, wantStrike(l, w))
			}
		}
	}
}

// P10.2, P10.3: events are quiet just if each of them, by itself, leaves all words as they are.
func TestQuietIsWhatStrikesNothing(t *testing.T) {
	c := chance(7)
	for round := range 500 {
		l := c.events(1 + round%4)
		for i := range l {
			l[i].Mask *= uint64(c.next(2))
		}
		for many := range 7 {
			w := c.words(many)
			left := true
			for _, v := range l {
				got, _ := Strike([]api.Event{v}, w)
				left = left && slices.Equal(got, w)
			}
			checkQuiet(t, l, many, left)
		}
	}
}

// P10.4: in whatever order events stand, they strike the same.
func TestStrikeInWhateverOrder(t *testing.T) {
	c := chance(8)
	words := c.words(5)
	few := append(c.events(3), api.Event{Addr: 2, Mask: 5}, api.Event{Addr: 2, Mask: 3})
	want, _ := Strike(few, words)
	if slices.Equal(want, words) {
		t.Errorf("nothing was struck")
	}
	for _, l := range orders(few) {
		checkStrike(t, l, words, want)
	}
	many := c.events(1024)
	want, _ = Strike(many, words)
	for range 50 {
		checkStrike(t, c.shuffled(many), words, want)
	}
}

// P10.4: what is struck twice is what it was.
func TestStruckTwice(t *testing.T) {
	c := chance(9)
	for _, many := range []int{0, 1, 2, 7, 1024} {
		for _, words := range []int{0, 1, 5, 6, 16384} {
			l, w := c.events(many), c.words(words)
			once, e := Strike(l, w)
			if e != api.OK {
				t.Errorf("Strike of %d events, %d words: error %d", many, words, e)
			}
			checkStrike(t, l, once, w)
			checkStrike(t, c.shuffled(l), once, w)
		}
	}
}

// P10.4: each event is in just one Of: those of all windows together are l, and each is that of its own window.
func TestEachEventIsInOneOf(t *testing.T) {
	c := chance(10)
	near := []int{0, 1, 2, -1, most, least}
	byMask := func(a, b api.Event) int { return cmp.Compare(a.Mask, b.Mask) }
	for _, many := range []int{1, 2, 50, 1024} {
		l := c.events(many)
		var all []api.Event
		for _, item := range near {
			for _, try := range near {
				for _, win := range near {
					own, e := Of(l, item, try, win)
					if e != api.OK {
						t.Fatalf("Of(%d events, %d, %d, %d): error %d", many, item, try, win, e)
					}
					all = append(all, own...)
				}
			}
		}
		slices.SortFunc(all, byMask)
		if !slices.Equal(all, l) {
			t.Errorf("all windows of %d events have %d", many, len(all))
		}
		for _, v := range l {
			if own, _ := Of(l, v.Item, v.Try, v.Win); !slices.Contains(own, v) {
				t.Errorf("%v is not in its own window", v)
			}
		}
	}
}

// P10.1 to P10.3, R2: what is handed in stays as it was, with and without an error, and behind the ends of the lists too.
func TestWhatIsHandedInStays(t *testing.T) {
	c := chance(11)
	for _, many := range []int{0, 1, 2, 30, 1024, 1025} {
		for _, words := range []int{0, 1, 6, 16384, 16385} {
			events, store := c.events(many+2), c.words(words+2)
			wasEvents, wasStore := slices.Clone(events), slices.Clone(store)
			l, w := events[1:many+1], store[1:words+1]
			Check(l)
			for _, v := range wasEvents[:min(len(wasEvents), 20)] {
				Of(l, v.Item, v.Try, v.Win)
			}
			Sparse(l)
			Quiet(l, words)
			Strike(l, w)
			if !slices.Equal(events, wasEvents) || !slices.Equal(store, wasStore) {
				t.Errorf("%d events or %d words were changed", many, words)
			}
		}
	}
}

// P10.1, R2: writing into what Of told changes neither l nor what is told later, and writing into l does not change what was told.
func TestWhatOfTellsIsNew(t *testing.T) {
	for _, many := range []int{1, 2, 30, 1024} {
		l := make([]api.Event, many, many+8)
		for i := range l {
			l[i] = api.Event{Tick: i, Mask: 1}
		}
		was := slices.Clone(l)
		first, _ := Of(l, 0, 0, 0)
		clear(first)
		clear(first[:cap(first)])
		if !slices.Equal(l, was) {
			t.Errorf("%d events were changed by writing into what was told", many)
		}
		checkOf(t, l, 0, 0, 0, was...)
		second, _ := Of(l, 0, 0, 0)
		clear(l[:cap(l)])
		if !slices.Equal(second, was) {
			t.Errorf("what was told of %d events was changed by writing into them", many)
		}
	}
}

// P10.3, R2: the same of Strike, whether an event does something or not.
func TestWhatStrikeTellsIsNew(t *testing.T) {
	for name, l := range map[string][]api.Event{"none": nil, "idle": {{Addr: -1, Mask: 1}}, "one": {{Addr: 0, Mask: 1}}, "back": {{Addr: 0, Mask: 1}, {Addr: 0, Mask: 1}}} {
		for _, many := range []int{0, 1, 5, 16384} {
			store := make([]uint64, many+4)
			for i := range store {
				store[i] = uint64(i) + 7
			}
			words, was := store[:many], slices.Clone(store)
			want := wantStrike(l, words)
			first, _ := Strike(l, words)
			clear(first[:cap(first)])
			if !slices.Equal(store, was) {
				t.Errorf("%s, %d words: they were changed by writing into what was told", name, many)
			}
			checkStrike(t, l, words, want)
			second, _ := Strike(l, words)
			clear(store)
			if !slices.Equal(second, want) {
				t.Errorf("%s, %d words: what was told was changed by writing into them", name, many)
			}
		}
	}
}

// R5: nothing is kept from one call to the next, nor hangs on the order of a map.
func TestAskedAgain(t *testing.T) {
	var far []api.Event
	for i := range 1000 {
		far = append(far, api.Event{Item: i % 16, Try: i % 9, Win: 2 * i, Addr: 9, Mask: 1})
	}
	near := slices.Clone(far)
	near[500].Win = near[500+16*9].Win - 1
	for range 50 {
		checkSparse(t, far, true)
		checkSparse(t, near, false)
		checkQuiet(t, far, 9, true)
		checkQuiet(t, far, 10, false)
		checkOf(t, far, 3, 3, 6, far[3])
		checkStrike(t, far[:1], make([]uint64, 10), []uint64{0, 0, 0, 0, 0, 0, 0, 0, 0, 1})
	}
}
