package mem

import (
	"fmt"
	"math"
	"slices"
	"testing"

	"bracken/api"
)

const most, least = math.MaxInt, math.MinInt

// ints are numbers of all kinds that a tick or a place may be.
func ints() []int {
	return []int{0, 1, 2, 3, 5, -1, -2, 1023, 1024, 16383, 16384, 16385, 1 << 31, 1<<32 + 1, -1 << 32, 1 << 62, -1 << 62, most - 1, most, least, least + 1}
}

// chance tells numbers by a fixed rule, so that each run has the same.
type chance uint64

func (c *chance) next(below int) int {
	*c = *c*6364136223846793005 + 1442695040888963407
	return int((uint64(*c) >> 33) % uint64(below))
}

func (c *chance) word() uint64 { return uint64(c.next(1<<30))<<34 ^ uint64(c.next(1<<30)) }

// near is mostly a number below a bound, sometimes one a little beside it, or one that is far from all.
func (c *chance) near(below int) int {
	switch c.next(10) {
	case 0:
		return ints()[c.next(len(ints()))]
	case 1:
		return -1 - c.next(3)
	case 2:
		return below + c.next(3)
	}
	return c.next(below)
}

// events are as many as are asked for, most of them of so many words, in a window of about so many accesses.
func (c *chance) events(many, words, ticks int) []api.Event {
	l := make([]api.Event, many)
	for i := range l {
		l[i] = api.Event{Item: c.near(4), Try: c.near(4), Win: c.near(4), Tick: c.near(ticks), Addr: c.near(words), Mask: c.word()}
		if c.next(8) == 0 {
			l[i].Mask = 0
		}
	}
	return l
}

func at(tick, addr int, mask uint64) api.Event { return api.Event{Tick: tick, Addr: addr, Mask: mask} }

// book is a Mem, and beside it what it has to be: its words, the events of the window that have not struck, and how many accesses there were.
type book struct {
	*Mem
	words      []uint64
	left       []api.Event
	ticks, all int
}

func made(t *testing.T, words int, l ...api.Event) *book {
	t.Helper()
	m, e := New(words, l)
	if m == nil || e != api.OK {
		t.Fatalf("New of %d words and %d events is %v, %d", words, len(l), m != nil, e)
	}
	b := &book{Mem: m, words: make([]uint64, words), left: slices.Clone(l)}
	b.look(t)
	return b
}

// short is how much of the words a message has.
func short(words []uint64) string {
	return fmt.Sprintf("%d words, %d", len(words), words[:min(len(words), 8)])
}

// look asks what may be asked without a change.
func (b *book) look(t *testing.T) {
	t.Helper()
	if got := b.Ticks(); got != b.ticks {
		t.Errorf("Ticks is %d, want %d", got, b.ticks)
	}
	if got := b.All(); got != b.all {
		t.Errorf("All is %d, want %d", got, b.all)
	}
	if got := b.Words(); !slices.Equal(got, b.words) {
		t.Errorf("Words: got %s, want %s", short(got), short(b.words))
	}
}

// hit lets each event strike that is to strike now, by the words of the document.
func (b *book) hit(now func(v api.Event) bool) {
	var stay []api.Event
	for _, v := range b.left {
		if !now(v) {
			stay = append(stay, v)
		} else if v.Addr >= 0 && v.Addr < len(b.words) {
			b.words[v.Addr] ^= v.Mask
		}
	}
	b.left = stay
}

// begin tells whether there is such a place, and what an access makes of all else then.
func (b *book) begin(addr int) bool {
	if addr < 0 || addr >= len(b.words) {
		return false
	}
	b.hit(func(v api.Event) bool { return v.Tick <= b.ticks })
	b.ticks++
	b.all++
	return true
}

func (b *book) load(t *testing.T, addr int) {
	t.Helper()
	want, wrong := uint64(0), api.ErrArg
	if b.begin(addr) {
		want, wrong = b.words[addr], api.OK
	}
	if got, e := b.Load(addr); got != want || e != wrong {
		t.Errorf("Load of %d is %d, %d, want %d, %d", addr, got, e, want, wrong)
	}
	b.look(t)
}

func (b *book) store(t *testing.T, addr int, w uint64) {
	t.Helper()
	wrong := api.ErrArg
	if b.begin(addr) {
		b.words[addr], wrong = w, api.OK
	}
	if e := b.Store(addr, w); e != wrong {
		t.Errorf("Store at %d is %d, want %d", addr, e, wrong)
	}
	b.look(t)
}

func (b *book) ends(t *testing.T, l ...api.Event) {
	t.Helper()
	wrong := api.ErrArg
	if len(l) <= 1024 {
		b.hit(func(api.Event) bool { return true })
		b.left, b.ticks, wrong = slices.Clone(l), 0, api.OK
	}
	if e := b.Next(l); e != wrong {
		t.Errorf("Next of %d events is %d, want %d", len(l), e, wrong)
	}
	b.look(t)
}

func checkLoad(t *testing.T, m *Mem, addr int, want uint64) {
	t.Helper()
	if got, e := m.Load(addr); got != want || e != api.OK {
		t.Errorf("Load of %d is %d, %d, want %d, %d", addr, got, e, want, api.OK)
	}
}

func checkStore(t *testing.T, m *Mem, addr int, w uint64) {
	t.Helper()
	if e := m.Store(addr, w); e != api.OK {
		t.Errorf("Store at %d is %d", addr, e)
	}
}

func checkNext(t *testing.T, m *Mem, l ...api.Event) {
	t.Helper()
	if e := m.Next(l); e != api.OK {
		t.Errorf("Next of %d events is %d", len(l), e)
	}
}

func checkWords(t *testing.T, m *Mem, want ...uint64) {
	t.Helper()
	if got := m.Words(); !slices.Equal(got, want) {
		t.Errorf("Words: got %s, want %s", short(got), short(want))
	}
}

func checkCount(t *testing.T, m *Mem, ticks, all int) {
	t.Helper()
	if m.Ticks() != ticks || m.All() != all {
		t.Errorf("Ticks and All are %d and %d, want %d and %d", m.Ticks(), m.All(), ticks, all)
	}
}

// refused makes Loads and Stores of places that are not there.
func refused(t *testing.T, m *Mem, places ...int) {
	t.Helper()
	for _, addr := range places {
		if got, e := m.Load(addr); got != 0 || e != api.ErrArg {
			t.Errorf("Load of %d is %d, %d", addr, got, e)
		}
		if e := m.Store(addr, 77); e != api.ErrArg {
			t.Errorf("Store at %d is %d", addr, e)
		}
	}
}

// of is a Mem of which nobody doubts that it may be.
func of(t *testing.T, words int, l ...api.Event) *Mem {
	t.Helper()
	return made(t, words, l...).Mem
}

// P12.2: the example of the document.
func TestWrittenOut(t *testing.T) {
	m := of(t, 1, at(1, 0, 4))
	checkLoad(t, m, 0, 0)
	checkLoad(t, m, 0, 4)
	checkCount(t, m, 2, 2)
}

// P12.1: as many words as there may be, and fewer; all are 0, and there was no access.
func TestNew(t *testing.T) {
	for _, words := range []int{1, 2, 3, 100, 4095, 16383, 16384} {
		m, e := New(words, nil)
		if m == nil || e != api.OK {
			t.Fatalf("New of %d words: error %d", words, e)
		}
		checkWords(t, m, make([]uint64, words)...)
		checkCount(t, m, 0, 0)
		checkLoad(t, m, 0, 0)
		checkLoad(t, m, words-1, 0)
		refused(t, m, -1, words)
	}
}

// P12.1: of no words, of fewer, and of more than there may be, there is the error, and nil.
func TestNewOfWordsThatMayNotBe(t *testing.T) {
	for _, words := range []int{0, -1, -2, -16384, 16385, 16386, 1 << 31, 1<<32 + 1, -1 << 32, most, most - 1, least, least + 1} {
		for _, l := range [][]api.Event{nil, {}, {at(0, 0, 1)}, make([]api.Event, 1024)} {
			if m, e := New(words, l); m != nil || e != api.ErrArg {
				t.Errorf("New of %d words and %d events is %v, %d", words, len(l), m != nil, e)
			}
		}
	}
}

// P12.1: of events that may not be likewise, of words that may be and of words that may not.
func TestNewOfEventsThatMayNotBe(t *testing.T) {
	for _, words := range []int{1, 2, 16384, 0, -1, 16385, most, least} {
		for _, many := range []int{1025, 1026, 2048, 65537} {
			if m, e := New(words, make([]api.Event, many)); m != nil || e != api.ErrArg {
				t.Errorf("New of %d words and %d events is %v, %d", words, many, m != nil, e)
			}
		}
	}
}

// P12.1: as many events as may be, and fewer, are all in the first window.
func TestNewOfEvents(t *testing.T) {
	for _, many := range []int{0, 1, 2, 64, 1023, 1024} {
		l := make([]api.Event, many)
		for i := range l {
			l[i] = at(i%5, i, 1<<(i%64))
		}
		b := made(t, 1024, l...)
		for range 6 {
			b.load(t, 0)
		}
		if slices.Max(b.Words()) == 0 != (many == 0) {
			t.Errorf("of %d events nothing has struck", many)
		}
		b.ends(t)
	}
	m := of(t, 1, slices.Repeat([]api.Event{at(0, 0, 2)}, 1023)...)
	checkLoad(t, m, 0, 2)
	m = of(t, 1, slices.Repeat([]api.Event{at(0, 0, 2)}, 1024)...)
	checkLoad(t, m, 0, 0)
}

// P12.1: two that New has made have nothing to do with each other.
func TestTwoOfThem(t *testing.T) {
	l := []api.Event{at(1, 0, 1), at(3, 1, 2)}
	one, other := made(t, 2, l...), made(t, 2, l...)
	one.store(t, 0, 9)
	one.load(t, 0)
	other.look(t)
	other.store(t, 1, 5)
	other.ends(t, at(0, 0, 8))
	one.look(t)
	one.load(t, 1)
	one.load(t, 1)
	other.load(t, 0)
	one.ends(t)
	other.look(t)
}

// P12.2: the first place, the last, and those that are not there.
func TestPlaces(t *testing.T) {
	for _, words := range []int{1, 2, 5, 1023, 16383, 16384} {
		b := made(t, words)
		for i, addr := range append(ints(), words-1, words, words+1, -words, -words-1) {
			b.store(t, addr, uint64(i)+1)
			b.load(t, addr)
			b.load(t, 0)
			b.load(t, words-1)
		}
	}
}

// P12.2: each place has a word of its own, of all 64 bits.
func TestEachPlace(t *testing.T) {
	c := chance(1)
	m := of(t, 300)
	want := make([]uint64, 300)
	for i := range want {
		want[i] = c.word() | 1<<63 | 1
		checkStore(t, m, i, want[i])
	}
	for i, w := range want {
		checkLoad(t, m, i, w)
	}
	checkWords(t, m, want...)
	checkStore(t, m, 7, math.MaxUint64)
	checkLoad(t, m, 7, math.MaxUint64)
	checkStore(t, m, 7, 0)
	checkLoad(t, m, 7, 0)
	checkLoad(t, m, 6, want[6])
	checkLoad(t, m, 8, want[8])
	checkCount(t, m, 606, 606)
}

// P12.2: what is stored twice is what was stored last; what is loaded twice is the same.
func TestStoredTwice(t *testing.T) {
	m := of(t, 2)
	checkStore(t, m, 1, 5)
	checkStore(t, m, 1, 9)
	checkLoad(t, m, 1, 9)
	checkLoad(t, m, 1, 9)
	checkStore(t, m, 1, 9)
	checkStore(t, m, 0, 3)
	checkWords(t, m, 3, 9)
	checkCount(t, m, 6, 6)
}

// P12.2: a place that is not there is no access: nothing strikes by it, and its number is that of the next one.
func TestWhatIsRefusedIsNoAccess(t *testing.T) {
	m := of(t, 2, at(0, 0, 1), at(1, 1, 2), at(-9, 0, 4))
	away := append([]int{2, 3, -1}, ints()[7:]...)
	refused(t, m, away...)
	checkWords(t, m, 0, 0)
	checkCount(t, m, 0, 0)
	checkLoad(t, m, 1, 0)
	checkWords(t, m, 5, 0)
	refused(t, m, away...)
	checkWords(t, m, 5, 0)
	checkCount(t, m, 1, 1)
	checkLoad(t, m, 1, 2)
	refused(t, m, away...)
	checkWords(t, m, 5, 2)
	checkCount(t, m, 2, 2)
}

// P12.2: an event strikes ahead of the access whose number is its Tick, one below 0 ahead of the first, one that never comes when the window ends.
func TestTicks(t *testing.T) {
	for _, tick := range append(ints(), 7, 8, 9, 10, 11) {
		m := of(t, 2, at(tick, 1, 6))
		struck := uint64(0)
		for number := range 10 {
			checkWords(t, m, 0, struck)
			if number >= tick {
				struck = 6
			}
			if number%2 == 0 {
				checkLoad(t, m, 1, struck)
			} else {
				checkStore(t, m, 0, 0)
			}
			checkWords(t, m, 0, struck)
		}
		checkNext(t, m)
		checkWords(t, m, 0, 6)
		checkLoad(t, m, 1, 6)
	}
}

// P12.2: ahead of a Load of its own word, of another word, a Store of its own word, and of another one.
func TestWhichAccess(t *testing.T) {
	accesses := map[string]func(b *book){
		"Load of its own":     func(b *book) { b.load(t, 1) },
		"Load of another":     func(b *book) { b.load(t, 2) },
		"Store of its own":    func(b *book) { b.store(t, 1, 40) },
		"Store of another":    func(b *book) { b.store(t, 0, 50) },
		"Load of none":        func(b *book) { b.load(t, 3) },
		"Store at none":       func(b *book) { b.store(t, -1, 60) },
		"Store of what it is": func(b *book) { b.store(t, 1, 0) },
	}
	for name, access := range accesses {
		for tick := -1; tick < 5; tick++ {
			b := made(t, 3, at(tick, 1, 8))
			for range 4 {
				access(b)
			}
			b.load(t, 1)
			b.load(t, 1)
			b.ends(t)
			if t.Failed() {
				t.Fatalf("%s, Tick %d", name, tick)
			}
		}
	}
}

// P12.2: what a Store puts there stays, if the event came ahead of it; behind it what was stored is struck.
func TestAheadOfAndBehindAStore(t *testing.T) {
	m := of(t, 1, at(0, 0, 12))
	checkStore(t, m, 0, 5)
	checkWords(t, m, 5)
	checkLoad(t, m, 0, 5)
	m = of(t, 1, at(1, 0, 12))
	checkStore(t, m, 0, 5)
	checkWords(t, m, 5)
	checkLoad(t, m, 0, 9)
	m = of(t, 1, at(1, 0, 12))
	checkStore(t, m, 0, 5)
	checkStore(t, m, 0, 6)
	checkWords(t, m, 6)
	m = of(t, 1, at(1, 0, 12))
	checkStore(t, m, 0, 5)
	checkNext(t, m)
	checkWords(t, m, 9)
}

// P12.2: it strikes once, and not again, in this window or in a later one.
func TestOnce(t *testing.T) {
	b := made(t, 2, at(2, 0, 3), at(-1, 1, 5), at(40, 1, 16))
	for range 10 {
		b.load(t, 0)
	}
	checkWords(t, b.Mem, 3, 5)
	b.ends(t)
	checkWords(t, b.Mem, 3, 21)
	for range 50 {
		b.load(t, 1)
	}
	b.ends(t)
	b.ends(t)
	checkWords(t, b.Mem, 3, 21)
}

// P12.2: several at one Tick, of one word and of different words; and several that have come due at once.
func TestSeveralAtOneTick(t *testing.T) {
	m := of(t, 3, at(1, 0, 1), at(1, 2, 6), at(1, 0, 4), at(1, 1, 9), at(1, 2, 2))
	checkLoad(t, m, 2, 0)
	checkWords(t, m, 0, 0, 0)
	checkLoad(t, m, 0, 5)
	checkWords(t, m, 5, 9, 4)
	m = of(t, 3, at(-3, 0, 1), at(0, 0, 2), at(-3, 1, 4), at(least, 1, 8), at(1, 2, 1))
	checkStore(t, m, 2, 7)
	checkWords(t, m, 3, 12, 7)
	checkLoad(t, m, 2, 6)
}

// P12.2: in whatever order the events stand.
func TestOrderOfEvents(t *testing.T) {
	l := []api.Event{at(5, 0, 1), at(0, 1, 2), at(3, 0, 4), at(1, 1, 8), at(-2, 0, 16), at(4, 1, 32), at(2, 1, 64)}
	c := chance(2)
	for range 100 {
		for i := range l {
			j := i + c.next(len(l)-i)
			l[i], l[j] = l[j], l[i]
		}
		m := of(t, 2, l...)
		for _, want := range []uint64{2, 10, 74, 74, 106, 106} {
			checkLoad(t, m, 1, want)
		}
		checkWords(t, m, 21, 106)
	}
}

// P12.2: the same event twice undoes what it did, three times it does it.
func TestTheSameEvent(t *testing.T) {
	v := at(1, 0, 7)
	for many := range 6 {
		m := of(t, 1, slices.Repeat([]api.Event{v}, many)...)
		checkStore(t, m, 0, 32)
		checkLoad(t, m, 0, 32^7*uint64(many%2))
		checkNext(t, m, v)
		checkNext(t, m, v, v)
		checkNext(t, m)
		checkLoad(t, m, 0, 32^7*uint64((many+1)%2))
	}
	m := of(t, 1, at(1, 0, 7), at(2, 0, 7))
	for _, want := range []uint64{0, 7, 0, 0} {
		checkLoad(t, m, 0, want)
	}
}

// P12.2: an event whose Addr is not there, and Mask 0, change nothing, when they strike and when the window ends.
func TestEventsThatDoNothing(t *testing.T) {
	var l []api.Event
	for _, addr := range []int{3, 4, -1, -3, 16384, most, most - 2, least, 1 << 32, -1 << 32} {
		for _, tick := range []int{0, 2, -1, 100, most, least} {
			l = append(l, at(tick, addr, math.MaxUint64))
		}
	}
	for addr := range 3 {
		l = append(l, at(1, addr, 0), at(50, addr, 0))
	}
	m := of(t, 3, l...)
	for i := range 5 {
		checkStore(t, m, i%3, uint64(i)+10)
	}
	checkWords(t, m, 13, 14, 12)
	checkNext(t, m, l...)
	checkWords(t, m, 13, 14, 12)
	checkLoad(t, m, 1, 14)
	checkNext(t, m)
	checkWords(t, m, 13, 14, 12)
}

// P12.2: Item, Try and Win make no difference.
func TestWhatDoesNotCount(t *testing.T) {
	for _, n := range ints() {
		for _, v := range []api.Event{{Item: n}, {Try: n}, {Win: n}, {Item: n, Try: -n, Win: n}} {
			v.Tick, v.Addr, v.Mask = 1, 1, 3
			late := v
			late.Tick, late.Mask = 9, 4
			m := of(t, 2, late, v)
			checkLoad(t, m, 1, 0)
			checkLoad(t, m, 1, 3)
			checkNext(t, m, v, late)
			checkWords(t, m, 0, 7)
			checkLoad(t, m, 1, 7)
			checkLoad(t, m, 1, 4)
			checkNext(t, m)
			checkWords(t, m, 0, 0)
		}
	}
}

// P12.3: Next of no events, of some, and of as many as may be.
func TestNext(t *testing.T) {
	b := made(t, 4)
	for _, none := range [][]api.Event{nil, {}, make([]api.Event, 0, 8)} {
		b.ends(t, none...)
		b.store(t, 2, 9)
	}
	b.ends(t, at(1, 2, 1), at(0, 3, 2))
	b.load(t, 2)
	b.load(t, 2)
	full := make([]api.Event, 1024)
	for i := range full {
		full[i] = at(i%7, i%4, uint64(i)*0x9e3779b97f4a7c15)
	}
	b.ends(t, full...)
	for range 5 {
		b.load(t, 3)
	}
	b.ends(t, full...)
	b.ends(t, full[:1023]...)
	b.load(t, 0)
	b.ends(t)
}

// P12.3: of events that may not be there is the error, and nothing changes: neither words, nor ticks, nor what is still to strike.
func TestNextThatIsRefused(t *testing.T) {
	for _, many := range []int{1025, 1026, 2048, 65537} {
		plain, tried := made(t, 3, at(1, 0, 1), at(3, 1, 2), at(9, 2, 4)), made(t, 3, at(1, 0, 1), at(3, 1, 2), at(9, 2, 4))
		early := slices.Repeat([]api.Event{at(-1, 0, 64)}, many)
		refuse := func() {
			for range 2 {
				tried.ends(t, early...)
				checkWords(t, tried.Mem, plain.Words()...)
				checkCount(t, tried.Mem, plain.Ticks(), plain.All())
			}
		}
		refuse()
		for i := range 5 {
			plain.load(t, i%3)
			tried.load(t, i%3)
			refuse()
		}
		plain.ends(t, at(1, 1, 8))
		tried.ends(t, at(1, 1, 8))
		refuse()
		plain.load(t, 1)
		tried.load(t, 1)
		refuse()
		plain.load(t, 1)
		tried.load(t, 1)
		refuse()
		checkWords(t, tried.Mem, 1, 10, 4)
	}
}

// P12.3: what has not struck yet strikes when its window ends, and nothing of it in the next one.
func TestWhatHasNotStruckYet(t *testing.T) {
	m := of(t, 3, at(0, 0, 1), at(2, 1, 2), at(3, 1, 4), at(most, 2, 8), at(least, 2, 16), at(2, 9, 1))
	checkLoad(t, m, 0, 1)
	checkLoad(t, m, 1, 0)
	checkWords(t, m, 1, 0, 16)
	checkNext(t, m)
	checkWords(t, m, 1, 6, 24)
	for range 6 {
		checkLoad(t, m, 1, 6)
	}
	checkNext(t, m)
	checkWords(t, m, 1, 6, 24)
}

// P12.3: a window without an access: all its events strike when it ends, not when it begins.
func TestWindowWithoutAccess(t *testing.T) {
	m := of(t, 2, at(0, 0, 1), at(-1, 1, 2))
	checkWords(t, m, 0, 0)
	checkNext(t, m, at(0, 0, 4), at(least, 1, 8))
	checkWords(t, m, 1, 2)
	checkNext(t, m, at(0, 0, 16))
	checkWords(t, m, 5, 10)
	checkNext(t, m)
	checkWords(t, m, 21, 10)
	checkNext(t, m)
	checkWords(t, m, 21, 10)
	checkCount(t, m, 0, 0)
}

// P12.3: an event's Tick is counted from the beginning of its own window.
func TestTickOfItsOwnWindow(t *testing.T) {
	m := of(t, 1)
	for range 5 {
		checkLoad(t, m, 0, 0)
	}
	checkNext(t, m, at(2, 0, 3), at(6, 0, 8))
	for _, want := range []uint64{0, 0, 3, 3, 3} {
		checkLoad(t, m, 0, want)
	}
	checkNext(t, m, at(1, 0, 1))
	checkWords(t, m, 11)
	checkLoad(t, m, 0, 11)
	checkLoad(t, m, 0, 10)
}

// P12.3: words stay over the end of a window.
func TestWordsStay(t *testing.T) {
	m := of(t, 3)
	for win := range 20 {
		checkStore(t, m, win%3, uint64(win)+1)
		checkNext(t, m)
		checkLoad(t, m, win%3, uint64(win)+1)
	}
	checkWords(t, m, 19, 20, 18)
}

// P12.3: Ticks and All after each call, also after errors, and over several windows.
func TestCounts(t *testing.T) {
	m := of(t, 2, at(0, 0, 1))
	checkCount(t, m, 0, 0)
	all := 0
	for win := range 6 {
		for ticks := range win {
			if ticks%2 == 0 {
				checkStore(t, m, 0, 1)
			} else {
				m.Load(1)
			}
			all++
			checkCount(t, m, ticks+1, all)
			refused(t, m, 2, -1, most, least)
			checkCount(t, m, ticks+1, all)
			m.Words()
			checkCount(t, m, ticks+1, all)
			if e := m.Next(make([]api.Event, 1025)); e != api.ErrArg {
				t.Errorf("Next is %d", e)
			}
			checkCount(t, m, ticks+1, all)
		}
		checkNext(t, m, at(win, 0, 1))
		checkCount(t, m, 0, all)
	}
	checkCount(t, m, 0, 15)
}

// P12.3: asked again, without anything between, they are the same, and nothing strikes by them.
func TestAskingChangesNothing(t *testing.T) {
	b := made(t, 3, at(0, 0, 1), at(-5, 1, 2), at(1, 2, 4))
	for range 3 {
		for range 5 {
			b.look(t)
		}
		b.load(t, 0)
	}
	b.ends(t, at(0, 0, 8))
	for range 5 {
		b.look(t)
	}
	checkWords(t, b.Mem, 1, 2, 4)
}

// P12.4: to ask for Words is no access, nothing strikes by it, and the next access has the number that it would have had.
func TestWords(t *testing.T) {
	m := of(t, 2, at(0, 0, 1), at(1, 1, 2), at(least, 0, 4))
	for range 10 {
		checkWords(t, m, 0, 0)
		checkCount(t, m, 0, 0)
	}
	checkStore(t, m, 1, 8)
	for range 10 {
		checkWords(t, m, 5, 8)
		checkCount(t, m, 1, 1)
	}
	checkLoad(t, m, 1, 10)
	checkWords(t, m, 5, 10)
}

// P12.4, R2: writing into what Words told, or behind it, changes nothing, and what it told is not changed by what comes later.
func TestWhatWordsTellIsNew(t *testing.T) {
	for _, words := range []int{1, 2, 7, 100, 16384} {
		for name, l := range map[string][]api.Event{"none": nil, "struck": {at(1, 0, 2), at(3, words-1, 4), at(9, 0, 8)}} {
			b := made(t, words, l...)
			early := b.Words()
			b.store(t, 0, 5)
			b.store(t, words-1, 6)
			told := b.Words()
			was := slices.Clone(told)
			b.store(t, 0, 70)
			b.load(t, words-1)
			b.ends(t, at(0, 0, 1))
			b.load(t, 0)
			if !slices.Equal(told, was) || slices.Max(early) != 0 {
				t.Errorf("%s, %d words: what was told was changed", name, words)
			}
			for _, list := range [][]uint64{early, told, b.Words()} {
				list = list[:cap(list)]
				for i := range list {
					list[i] = 99
				}
				b.look(t)
				b.load(t, 0)
				b.load(t, words-1)
			}
			one, other := b.Words(), b.Words()
			clear(one)
			if !slices.Equal(other, b.words) {
				t.Errorf("%s, %d words: two answers share words", name, words)
			}
		}
	}
}

// R2: the events that are handed in stay as they were, and what is written into them behind New or Next changes nothing.
func TestWhatIsHandedIn(t *testing.T) {
	c := chance(3)
	for _, many := range []int{1, 2, 30, 1023} {
		store := c.events(many+1, 4, 6)
		l, was := store[:many], slices.Clone(store)
		spoil := func() {
			if !slices.Equal(store, was) {
				t.Fatalf("%d events were changed", many)
			}
			for i := range store {
				store[i] = at(i%6, i%4, 1<<40+uint64(i))
			}
			was = slices.Clone(store)
		}
		b := made(t, 4, l...)
		spoil()
		for range 4 {
			b.load(t, 1)
		}
		b.ends(t, l...)
		spoil()
		b.store(t, 2, 3)
		b.ends(t)
		if !slices.Equal(store, was) {
			t.Fatalf("%d events were changed", many)
		}
	}
}

// R2: a list that is too long stays as it was too.
func TestWhatIsRefusedStays(t *testing.T) {
	c := chance(4)
	long := c.events(1025, 4, 6)
	was := slices.Clone(long)
	b := made(t, 4, at(1, 1, 1))
	b.ends(t, long...)
	b.load(t, 0)
	b.load(t, 1)
	New(4, long)
	if !slices.Equal(long, was) {
		t.Errorf("the events were changed")
	}
}

// P12.1 to P12.4: what a nil one tells, again and again.
func TestNilMem(t *testing.T) {
	var m *Mem
	for range 3 {
		refused(t, m, ints()...)
		for _, many := range []int{0, 1, 2, 1024, 1025} {
			if e := m.Next(make([]api.Event, many)); e != api.ErrArg {
				t.Errorf("Next of %d events is %d", many, e)
			}
		}
		if e := m.Next(nil); e != api.ErrArg {
			t.Errorf("Next of nil is %d", e)
		}
		checkWords(t, m)
		checkCount(t, m, 0, 0)
	}
}

// P12.1 to P12.4: one that New has not made has no words, and no events; its windows end all the same.
func TestMemThatNewHasNotMade(t *testing.T) {
	for name, begin := range map[string]func(t *testing.T, m *Mem){
		"at once": func(t *testing.T, m *Mem) {},
		"Load":    func(t *testing.T, m *Mem) { m.Load(0) },
		"Store":   func(t *testing.T, m *Mem) { m.Store(0, 1) },
		"Next":    func(t *testing.T, m *Mem) { checkNext(t, m) },
		"events":  func(t *testing.T, m *Mem) { checkNext(t, m, at(0, 0, 1), at(most, least, 7), at(least, most, 3)) },
		"full":    func(t *testing.T, m *Mem) { checkNext(t, m, make([]api.Event, 1024)...) },
	} {
		t.Run(name, func(t *testing.T) {
			var m Mem
			begin(t, &m)
			for range 3 {
				refused(t, &m, ints()...)
				checkWords(t, &m)
				checkCount(t, &m, 0, 0)
				if e := m.Next(make([]api.Event, 1025)); e != api.ErrArg {
					t.Errorf("Next of 1025 events is %d", e)
				}
				checkNext(t, &m, at(0, 0, 1), at(5, 1, 2))
				checkNext(t, &m)
			}
		})
	}
}

// P12.1 to P12.4: whatever is done, against the definition after each call.
func TestByDefinition(t *testing.T) {
	c := chance(5)
	for range 300 {
		words, ticks := 1+c.next(8), 1+c.next(12)
		b := made(t, words, c.events(c.next(20), words, ticks)...)
		for range 100 {
			switch c.next(12) {
			case 0:
				b.ends(t, c.events(c.next(20), words, ticks)...)
			case 1:
				b.ends(t, c.events(1020+c.next(10), words, ticks)...)
			case 2, 3, 4, 5:
				b.store(t, c.near(words), c.word())
			default:
				b.load(t, c.near(words))
			}
		}
		b.ends(t)
	}
}

// P12.1 to P12.4: the same of a great memory, with many events in each window.
func TestByDefinitionOfManyWords(t *testing.T) {
	c := chance(6)
	b := made(t, 16384, c.events(1024, 16384, 200)...)
	for range 3 {
		for range 250 {
			if c.next(2) == 0 {
				b.store(t, c.near(16384), c.word())
			} else {
				b.load(t, c.near(16384))
			}
		}
		b.ends(t, c.events(1024, 16384, 400)...)
	}
}

// P12.5: without events what was stored last is loaded, whatever is stored, loaded and asked for in between.
func TestWithoutEvents(t *testing.T) {
	c := chance(7)
	for range 50 {
		words := 1 + c.next(40)
		m, last := of(t, words), make(map[int]uint64)
		for range 400 {
			addr, w := c.next(words), c.word()
			switch c.next(6) {
			case 0, 1:
				checkStore(t, m, addr, w)
				last[addr] = w
			case 2:
				refused(t, m, words+c.next(3), -1-addr)
			case 3:
				clear(m.Words())
			case 4:
				checkNext(t, m)
			default:
				checkLoad(t, m, addr, last[addr])
			}
		}
		for addr := range words {
			checkLoad(t, m, addr, last[addr])
		}
	}
}

// P12.5: an event changes its own word alone: beside a memory without it all other words are the same all the time, and its own differs by Mask, or not at all.
func TestItsOwnWordAlone(t *testing.T) {
	c := chance(8)
	for range 400 {
		words := 1 + c.next(6)
		v := c.events(1, words, 12)[0]
		plain, struck := of(t, words), of(t, words, v)
		stored := false
		for number := range 10 {
			addr, w := c.next(words), c.word()
			if c.next(2) == 0 {
				checkStore(t, plain, addr, w)
				checkStore(t, struck, addr, w)
				stored = stored || number >= v.Tick && addr == v.Addr
			} else {
				one, _ := plain.Load(addr)
				other, _ := struck.Load(addr)
				if addr != v.Addr && one != other {
					t.Errorf("%v changed what is loaded from %d", v, addr)
				}
			}
			checkApart(t, v, plain, struck, number >= v.Tick && !stored)
		}
		checkNext(t, plain)
		checkNext(t, struck)
		checkApart(t, v, plain, struck, !stored)
	}
}

// checkApart asks that the word of v differs by its Mask, if it is struck, and nothing else at all.
func checkApart(t *testing.T, v api.Event, plain, struck *Mem, is bool) {
	t.Helper()
	want := plain.Words()
	if is && v.Addr >= 0 && v.Addr < len(want) {
		want[v.Addr] ^= v.Mask
	}
	checkWords(t, struck, want...)
	checkCount(t, struck, plain.Ticks(), plain.All())
}

// R5: what is told hangs on what was given and asked for alone.
func TestAskedAgain(t *testing.T) {
	run := func() (all []uint64) {
		c := chance(9)
		m := of(t, 9, c.events(100, 9, 20)...)
		for range 10 {
			for range 25 {
				w, _ := m.Load(c.near(9))
				m.Store(c.near(9), w+1)
				all = append(all, w)
			}
			all = append(all, m.Words()...)
			m.Next(c.events(100, 9, 60))
		}
		return append(all, m.Words()...)
	}
	first := run()
	for range 5 {
		if !slices.Equal(run(), first) {
			t.Errorf("asked again it is another")
		}
	}
}
