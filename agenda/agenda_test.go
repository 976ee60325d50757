package agenda

import (
	"fmt"
	"math"
	"slices"
	"testing"

	"bracken/api"
)

const most, least = math.MaxInt, math.MinInt

// ints are numbers of all kinds that a tick may be.
func ints() []int {
	return []int{0, 1, 2, 3, 5, -1, -2, 1023, 1024, 16384, 1 << 31, 1<<32 + 1, -1 << 32, 1 << 62, -1 << 62, most - 1, most, least, least + 1}
}

// chance tells numbers by a fixed rule, so that each run has the same.
type chance uint64

func (c *chance) next(below int) int {
	*c = *c*6364136223846793005 + 1442695040888963407
	return int((uint64(*c) >> 33) % uint64(below))
}

// tick is one of few, so that many events have the same, or one that is far from all.
func (c *chance) tick() int {
	if c.next(8) == 0 {
		return ints()[c.next(len(ints()))]
	}
	return c.next(9) - 4
}

// events are as many as are asked for, of whose numbers all but Tick tell each from the others.
func (c *chance) events(many int) []api.Event {
	l := make([]api.Event, many)
	for i := range l {
		l[i] = api.Event{Item: c.next(100), Try: -i, Win: c.next(100) - 50, Tick: c.tick(), Addr: c.next(1 << 30), Mask: uint64(c.next(1<<30)) << 30}
	}
	return l
}

// same are many events that are all v.
func same(many int, v api.Event) []api.Event { return slices.Repeat([]api.Event{v}, many) }

// at are events with these Ticks, whose Addr is where they stand.
func at(ticks ...int) []api.Event {
	l := make([]api.Event, len(ticks))
	for i, tick := range ticks {
		l[i] = api.Event{Tick: tick, Addr: i, Mask: 1 << i}
	}
	return l
}

// ordered has events by the words of the document: each stands behind all those that have a lesser Tick, or the same and were put ahead of it.
func ordered(l []api.Event) []api.Event {
	placed := make([]api.Event, len(l))
	for i, v := range l {
		ahead := 0
		for j, other := range l {
			if other.Tick < v.Tick || other.Tick == v.Tick && j < i {
				ahead++
			}
		}
		placed[ahead] = v
	}
	return placed
}

// short is how much of a list a message has.
func short(l []api.Event) string {
	return fmt.Sprintf("%d events, %v", len(l), l[:min(len(l), 8)])
}

// book is an Agenda, and beside it what it has to keep, in the order in which it was put.
type book struct {
	*Agenda
	kept []api.Event
}

func made(t *testing.T, l ...api.Event) *book {
	t.Helper()
	a, e := New(l)
	if a == nil || e != api.OK {
		t.Fatalf("New of %s is %v, %d", short(l), a, e)
	}
	b := &book{a, slices.Clone(l)}
	b.look(t)
	return b
}

// look asks what may be asked without a change.
func (b *book) look(t *testing.T) {
	t.Helper()
	if got := b.Left(); got != len(b.kept) {
		t.Errorf("Left is %d, want %d", got, len(b.kept))
	}
	want, wrong := 0, api.ErrNone
	for i, v := range b.kept {
		if i == 0 || v.Tick < want {
			want, wrong = v.Tick, api.OK
		}
	}
	if got, e := b.Next(); got != want || e != wrong {
		t.Errorf("Next of %s is %d, %d, want %d, %d", short(b.kept), got, e, want, wrong)
	}
}

func (b *book) puts(t *testing.T, l ...api.Event) {
	t.Helper()
	want := api.OK
	if len(b.kept)+len(l) > 1024 {
		want = api.ErrArg
	} else {
		b.kept = append(b.kept, l...)
	}
	if e := b.Put(l...); e != want {
		t.Errorf("Put of %s is %d, want %d", short(l), e, want)
	}
	b.look(t)
}

// due tells what was told too, for whoever looks at all of it.
func (b *book) due(t *testing.T, tick int) []api.Event {
	t.Helper()
	var told, stay []api.Event
	for _, v := range b.kept {
		if v.Tick <= tick {
			told = append(told, v)
		} else {
			stay = append(stay, v)
		}
	}
	b.kept = stay
	got := b.Due(tick)
	if want := ordered(told); !slices.Equal(got, want) {
		t.Errorf("Due at %d: got %s, want %s", tick, short(got), short(want))
	}
	b.look(t)
	return got
}

func (b *book) rest(t *testing.T) []api.Event {
	t.Helper()
	want := ordered(b.kept)
	b.kept = nil
	got := b.Rest()
	if !slices.Equal(got, want) {
		t.Errorf("Rest: got %s, want %s", short(got), short(want))
	}
	b.look(t)
	return got
}

func checkTold(t *testing.T, got []api.Event, want ...api.Event) {
	t.Helper()
	if !slices.Equal(got, want) {
		t.Errorf("got %s, want %s", short(got), short(want))
	}
}

func checkNext(t *testing.T, a *Agenda, want int, wrong api.Errno) {
	t.Helper()
	if got, e := a.Next(); got != want || e != wrong {
		t.Errorf("Next is %d, %d, want %d, %d", got, e, want, wrong)
	}
}

func checkLeft(t *testing.T, a *Agenda, want int) {
	t.Helper()
	if got := a.Left(); got != want {
		t.Errorf("Left is %d, want %d", got, want)
	}
}

// P11.2, P11.3: the example of the document, and what is told after it.
func TestWrittenOut(t *testing.T) {
	l := at(5, 2, 9)
	a, e := New(l)
	if a == nil || e != api.OK {
		t.Fatalf("New is %v, %d", a, e)
	}
	checkLeft(t, a, 3)
	checkNext(t, a, 2, api.OK)
	checkTold(t, a.Due(5), l[1], l[0])
	checkNext(t, a, 9, api.OK)
	checkLeft(t, a, 1)
	checkTold(t, a.Rest(), l[2])
	checkNext(t, a, 0, api.ErrNone)
	checkLeft(t, a, 0)
}

// P11.1: an Agenda of as many events as there may be, and of fewer, keeps them.
func TestNew(t *testing.T) {
	c := chance(1)
	for _, many := range []int{0, 1, 2, 3, 7, 8, 100, 1023, 1024} {
		l := c.events(many)
		b := made(t, l...)
		checkLeft(t, b.Agenda, many)
		checkTold(t, b.Rest(), ordered(l)...)
		checkLeft(t, b.Agenda, 0)
	}
	made(t, make([]api.Event, 1024, 4096)...)
	for _, none := range [][]api.Event{nil, {}, make([]api.Event, 0, 8)} {
		b := made(t, none...)
		checkNext(t, b.Agenda, 0, api.ErrNone)
		checkTold(t, b.Due(most))
		checkTold(t, b.Rest())
	}
}

// P11.1: of one event more than there may be, and of many more, there is the error, and nil.
func TestNewOfTooMany(t *testing.T) {
	for _, many := range []int{1025, 1026, 2048, 65537} {
		if a, e := New(make([]api.Event, many)); a != nil || e != api.ErrArg {
			t.Errorf("New of %d events is %v, %d", many, a, e)
		}
	}
	c := chance(2)
	if a, e := New(c.events(1025)); a != nil || e != api.ErrArg {
		t.Errorf("New of 1025 events is %v, %d", a, e)
	}
}

// P11.1: two that New has made have nothing to do with each other.
func TestTwoOfThem(t *testing.T) {
	l := at(3, 1, 2)
	one, other := made(t, l...), made(t, l...)
	one.due(t, 2)
	other.look(t)
	other.puts(t, at(0)...)
	one.look(t)
	other.rest(t)
	one.rest(t)
}

// P11.1: none, one, several, as many as just fit, and more, where none are kept, some, and as many as may be.
func TestPut(t *testing.T) {
	c := chance(3)
	for _, kept := range []int{0, 1, 2, 500, 1023, 1024} {
		for _, many := range []int{0, 1, 2, 20, 523, 524, 525, 1022, 1023, 1024, 1025, 3000} {
			b := made(t, c.events(kept)...)
			b.puts(t, c.events(many)...)
			b.due(t, c.next(9)-4)
			b.rest(t)
		}
	}
}

// P11.1: what just fits is put; of one more there is the error.
func TestPutAtTheEdge(t *testing.T) {
	for kept := range 1025 {
		a, _ := New(make([]api.Event, kept))
		fits := 1024 - kept
		if e := a.Put(make([]api.Event, fits+1)...); e != api.ErrArg || a.Left() != kept {
			t.Errorf("%d are kept: Put of %d is %d, Left is %d", kept, fits+1, e, a.Left())
		}
		if e := a.Put(make([]api.Event, fits)...); e != api.OK || a.Left() != 1024 {
			t.Errorf("%d are kept: Put of %d is %d, Left is %d", kept, fits, e, a.Left())
		}
		if e := a.Put(api.Event{}); e != api.ErrArg || a.Left() != 1024 {
			t.Errorf("Put at 1024 is %d, Left is %d", e, a.Left())
		}
		if e := a.Put(); e != api.OK || a.Left() != 1024 {
			t.Errorf("Put of none at 1024 is %d, Left is %d", e, a.Left())
		}
	}
}

// P11.1: what was refused is not told, and what is told afterwards is what would have been told without it.
func TestPutThatIsRefused(t *testing.T) {
	c := chance(4)
	for _, kept := range []int{0, 1, 3, 1000, 1023, 1024} {
		l, later := c.events(kept), c.events(20)
		plain, refused := made(t, l...), made(t, l...)
		for _, many := range []int{1025 - kept, 1026 - kept, 2000} {
			early := same(many, api.Event{Tick: least})
			if e := refused.Put(early...); e != api.ErrArg {
				t.Errorf("%d are kept: Put of %d is %d", kept, many, e)
			}
			refused.look(t)
		}
		for _, tick := range []int{least, -1, 1, 3} {
			checkTold(t, refused.due(t, tick), plain.due(t, tick)...)
		}
		refused.puts(t, later...)
		plain.puts(t, later...)
		checkTold(t, refused.rest(t), plain.rest(t)...)
	}
}

// P11.1: once some were told there is room for as many again, and never for more.
func TestPutAfterSomeWereTold(t *testing.T) {
	full := make([]api.Event, 1024)
	for i := range full {
		full[i] = api.Event{Tick: i, Addr: i}
	}
	b := made(t, full...)
	for _, told := range []int{1, 2, 300, 721} {
		next, _ := b.Next()
		if got := b.due(t, next+told-1); len(got) != told {
			t.Fatalf("Due tells %d, want %d", len(got), told)
		}
		late := make([]api.Event, told+1)
		for i := range late {
			late[i] = api.Event{Tick: next + 1024 + i, Addr: -i}
		}
		b.puts(t, late...)
		b.puts(t, late[:told]...)
		b.puts(t, late[0])
		checkLeft(t, b.Agenda, 1024)
	}
	b.rest(t)
	b.puts(t, full...)
	b.puts(t, full[0])
	b.rest(t)
}

// P11.1: more events than may be kept at once are put one after the other, far more in all than 1024.
func TestPutOverAndOver(t *testing.T) {
	c := chance(5)
	b := made(t)
	for i := range 5000 {
		b.puts(t, api.Event{Tick: i / 3, Addr: i})
		if c.next(3) == 0 {
			b.due(t, i/3-c.next(3))
		}
	}
	b.rest(t)
}

// P11.2: a tick below all, one that an event has, one between two, and one above all.
func TestDue(t *testing.T) {
	l := at(10, -3, 7, 7, 20, 0)
	for tick, want := range map[int][]api.Event{
		least: nil,
		-4:    nil,
		-3:    {l[1]},
		-2:    {l[1]},
		-1:    {l[1]},
		0:     {l[1], l[5]},
		6:     {l[1], l[5]},
		7:     {l[1], l[5], l[2], l[3]},
		9:     {l[1], l[5], l[2], l[3]},
		10:    {l[1], l[5], l[2], l[3], l[0]},
		19:    {l[1], l[5], l[2], l[3], l[0]},
		20:    {l[1], l[5], l[2], l[3], l[0], l[4]},
		21:    {l[1], l[5], l[2], l[3], l[0], l[4]},
		most:  {l[1], l[5], l[2], l[3], l[0], l[4]},
	} {
		b := made(t, l...)
		checkTold(t, b.due(t, tick), want...)
		checkTold(t, b.due(t, tick))
		checkLeft(t, b.Agenda, len(l)-len(want))
		checkTold(t, append(want, b.rest(t)...), l[1], l[5], l[2], l[3], l[0], l[4])
	}
}

// P11.2, P11.3: Ticks may be whatever ints, and so may be the tick that is asked for.
func TestDueAtWhateverTicks(t *testing.T) {
	for _, tick := range ints() {
		for _, asked := range ints() {
			b := made(t, api.Event{Tick: tick, Addr: 1})
			if got := b.due(t, asked); len(got) == 1 != (tick <= asked) {
				t.Errorf("an event of %d at %d: %v", tick, asked, got)
			}
			for _, other := range ints() {
				b := made(t, api.Event{Tick: tick, Addr: 1}, api.Event{Tick: other, Addr: 2})
				b.due(t, asked)
				b.rest(t)
			}
		}
	}
	l := at(ints()...)
	for _, asked := range ints() {
		b := made(t, l...)
		b.due(t, asked)
		b.due(t, asked)
		b.rest(t)
	}
}

// P11.2: the least and the greatest int, as a Tick and as the tick that is asked for.
func TestDueAtTheEnds(t *testing.T) {
	l := at(most, least, most-1, least+1, most, least, 0, -1)
	b := made(t, l...)
	checkNext(t, b.Agenda, least, api.OK)
	checkTold(t, b.Due(least), l[1], l[5])
	checkTold(t, b.Due(least))
	checkNext(t, b.Agenda, least+1, api.OK)
	checkTold(t, b.Due(most-1), l[3], l[7], l[6], l[2])
	checkNext(t, b.Agenda, most, api.OK)
	checkLeft(t, b.Agenda, 2)
	checkTold(t, b.Due(most), l[0], l[4])
	checkTold(t, b.Due(most))
	checkNext(t, b.Agenda, 0, api.ErrNone)
}

// P11.2: at ticks that rise each tells its own; at ticks that fall the first tells all that the others would.
func TestDueThatRisesAndFalls(t *testing.T) {
	c := chance(6)
	for range 20 {
		l := c.events(200)
		rising, falling := made(t, l...), made(t, l...)
		for tick := -6; tick <= 6; tick++ {
			for _, v := range rising.due(t, tick) {
				if tick > -6 && v.Tick != tick {
					t.Errorf("Due at %d tells one of %d", tick, v.Tick)
				}
			}
		}
		for tick := 6; tick >= -6; tick-- {
			if got := falling.due(t, tick); tick < 6 && len(got) != 0 {
				t.Errorf("Due at %d tells %s, which was told at %d", tick, short(got), tick+1)
			}
		}
		checkTold(t, rising.rest(t), falling.rest(t)...)
	}
}

// P11.2: those of one Tick are told in the order in which they were put, by New and by several Puts, whatever their other numbers are.
func TestOneTick(t *testing.T) {
	for _, many := range []int{2, 3, 4, 12, 13, 100, 1024} {
		for _, parts := range []int{1, 2, 3, many} {
			for _, kinds := range []int{1, 2, 5} {
				l := make([]api.Event, many)
				for i := range l {
					l[i] = api.Event{Item: -i, Tick: i % kinds, Addr: many - i, Mask: uint64(many-i) << 40}
				}
				first := max(1, many/parts)
				b := made(t, l[:first]...)
				for i := first; i < many; i += first {
					b.puts(t, l[i:min(i+first, many)]...)
				}
				for tick := range kinds {
					b.due(t, tick)
				}
				checkLeft(t, b.Agenda, 0)
			}
		}
	}
}

// P11.2: also if some were told in between, of another Tick or of the same one.
func TestOneTickWithSomeToldInBetween(t *testing.T) {
	event := func(tick, addr int) api.Event { return api.Event{Tick: tick, Addr: addr} }
	b := made(t, event(4, 0), event(1, 1), event(4, 2), event(1, 3))
	checkTold(t, b.due(t, 1), event(1, 1), event(1, 3))
	b.puts(t, event(4, 4), event(1, 5), event(4, 6))
	checkTold(t, b.due(t, 3), event(1, 5))
	b.puts(t, event(4, 7))
	b.puts(t, event(1, 8), event(4, 9))
	checkTold(t, b.due(t, 4), event(1, 8), event(4, 0), event(4, 2), event(4, 4), event(4, 6), event(4, 7), event(4, 9))
	b.puts(t, event(4, 10), event(4, 11))
	b.puts(t, event(4, 9))
	checkTold(t, b.due(t, 4), event(4, 10), event(4, 11), event(4, 9))
	b.puts(t, event(4, 13), event(4, 12))
	checkTold(t, b.rest(t), event(4, 13), event(4, 12))
}

// P11.2: an event that is put when its Tick was asked for already is told the next time.
func TestPutBehindItsTick(t *testing.T) {
	b := made(t, at(1, 8)...)
	b.due(t, 5)
	b.puts(t, at(3, -9, 5)...)
	checkNext(t, b.Agenda, -9, api.OK)
	checkTold(t, b.due(t, 2), api.Event{Tick: -9, Addr: 1, Mask: 2})
	b.due(t, 5)
	checkLeft(t, b.Agenda, 1)
	b.rest(t)
}

// P11.2, P11.4: events that are the same in all numbers are told as often as they were put.
func TestTheSameEvents(t *testing.T) {
	v := api.Event{Item: 3, Try: 1, Win: -4, Tick: 6, Addr: 2, Mask: 8}
	late := v
	late.Tick++
	for _, many := range []int{1, 2, 3, 20, 511} {
		b := made(t, same(many, v)...)
		b.puts(t, late, v)
		b.puts(t, same(many, v)...)
		b.due(t, 5)
		checkTold(t, b.due(t, 6), same(2*many+1, v)...)
		checkTold(t, b.due(t, 6))
		b.puts(t, v)
		checkTold(t, b.rest(t), v, late)
	}
	b := made(t, same(1024, v)...)
	checkTold(t, b.due(t, 6), same(1024, v)...)
	b = made(t, make([]api.Event, 1024)...)
	checkTold(t, b.rest(t), make([]api.Event, 1024)...)
}

// P11.2: Rest of none, of some, and after Due; behind it nothing is told till there is something put again.
func TestRest(t *testing.T) {
	b := made(t)
	checkTold(t, b.rest(t))
	l := at(4, most, 2, least, 4)
	b.puts(t, l...)
	checkTold(t, b.rest(t), l[3], l[2], l[0], l[4], l[1])
	checkTold(t, b.rest(t))
	checkTold(t, b.due(t, most))
	checkNext(t, b.Agenda, 0, api.ErrNone)
	b.puts(t, l...)
	checkTold(t, b.due(t, 2), l[3], l[2])
	checkTold(t, b.rest(t), l[0], l[4], l[1])
	checkTold(t, b.due(t, least))
	b.puts(t, l[1])
	checkNext(t, b.Agenda, most, api.OK)
	checkTold(t, b.rest(t), l[1])
}

// P11.3: asked again, without anything between, Next and Left are the same, and nothing is told by them.
func TestNextAndLeftChangeNothing(t *testing.T) {
	c := chance(7)
	for _, many := range []int{0, 1, 2, 50} {
		b := made(t, c.events(many)...)
		for range 5 {
			b.look(t)
		}
		b.due(t, 0)
		for range 5 {
			b.look(t)
		}
		b.rest(t)
	}
}

// P11.3: a Tick of 0 is told with OK, where none is told with ErrNone.
func TestNextOfTickNought(t *testing.T) {
	b := made(t, at(0)...)
	checkNext(t, b.Agenda, 0, api.OK)
	b.rest(t)
	checkNext(t, b.Agenda, 0, api.ErrNone)
	b.puts(t, at(3, 0)...)
	checkNext(t, b.Agenda, 0, api.OK)
	b.due(t, 0)
	checkNext(t, b.Agenda, 3, api.OK)
}

// P11.1 to P11.3: what a nil one tells, again and again.
func TestNilAgenda(t *testing.T) {
	var a *Agenda
	for range 3 {
		for _, l := range [][]api.Event{nil, {}, make([]api.Event, 1), at(3, 1), make([]api.Event, 1024), make([]api.Event, 1025)} {
			if e := a.Put(l...); e != api.ErrArg {
				t.Errorf("Put of %d is %d", len(l), e)
			}
		}
		for _, tick := range ints() {
			checkTold(t, a.Due(tick))
		}
		checkTold(t, a.Rest())
		checkNext(t, a, 0, api.ErrNone)
		checkLeft(t, a, 0)
	}
}

// P11.1 to P11.3: one that New has not made keeps none at first, and then what is put.
func TestAgendaThatNewHasNotMade(t *testing.T) {
	for name, begin := range map[string]func(t *testing.T, b *book){
		"at once":   func(t *testing.T, b *book) {},
		"Put":       func(t *testing.T, b *book) { b.puts(t) },
		"Due":       func(t *testing.T, b *book) { b.due(t, most) },
		"Rest":      func(t *testing.T, b *book) { b.rest(t) },
		"Next":      func(t *testing.T, b *book) { checkNext(t, b.Agenda, 0, api.ErrNone) },
		"Left":      func(t *testing.T, b *book) { checkLeft(t, b.Agenda, 0) },
		"too many":  func(t *testing.T, b *book) { b.puts(t, make([]api.Event, 1025)...) },
		"then full": func(t *testing.T, b *book) { b.puts(t, make([]api.Event, 1024)...); b.puts(t, api.Event{}); b.rest(t) },
	} {
		t.Run(name, func(t *testing.T) {
			var zero Agenda
			b := &book{&zero, nil}
			begin(t, b)
			b.look(t)
			b.puts(t, at(5, 2, 9, 2)...)
			b.due(t, 5)
			b.puts(t, at(9, 1)...)
			b.rest(t)
		})
	}
}

// P11.2, P11.3: whatever is put and asked for, against the definition after each call.
func TestByDefinition(t *testing.T) {
	c := chance(8)
	for range 60 {
		b := made(t, c.events(c.next(40))...)
		for range 60 {
			switch c.next(8) {
			case 0:
				b.rest(t)
			case 1, 2, 3:
				b.due(t, c.tick())
			case 4:
				b.puts(t, c.events(c.next(1100))...)
			default:
				b.puts(t, c.events(c.next(5))...)
			}
		}
	}
}

// P11.4: each event that was put is told once, and none that was not, whatever is asked for in between.
func TestEachIsToldOnce(t *testing.T) {
	c := chance(9)
	for range 40 {
		put, told := 0, make(map[int]int)
		mark := func(l []api.Event) {
			for _, v := range l {
				told[v.Addr]++
			}
		}
		a := new(Agenda)
		for range 200 {
			l := c.events(c.next(60))
			for i := range l {
				l[i].Addr = put + i
			}
			if a.Put(l...) == api.OK {
				put += len(l)
			}
			a.Next()
			mark(a.Due(c.tick()))
			if a.Left() != put-len(told) {
				t.Fatalf("Left is %d, put were %d, told %d", a.Left(), put, len(told))
			}
			if c.next(50) == 0 {
				mark(a.Rest())
			}
		}
		mark(a.Rest())
		for addr := range put {
			if told[addr] != 1 {
				t.Fatalf("event %d of %d was told %d times", addr, put, told[addr])
			}
		}
		if len(told) != put {
			t.Fatalf("%d were told, %d put", len(told), put)
		}
	}
}

// R2: what is handed in stays as it was, and what is written into it behind the call is not told.
func TestWhatIsHandedInStays(t *testing.T) {
	c := chance(10)
	for _, many := range []int{1, 2, 10, 500} {
		first, more := c.events(many), c.events(many)
		was, wasMore := slices.Clone(first), slices.Clone(more)
		a, _ := New(first)
		a.Put(more...)
		checkTold(t, first, was...)
		checkTold(t, more, wasMore...)
		for i := range many {
			first[i], more[i] = api.Event{Tick: least, Addr: -7}, api.Event{Tick: most, Addr: -8}
		}
		wrote, wroteMore := slices.Clone(first), slices.Clone(more)
		want := ordered(append(was, wasMore...))
		checkNext(t, a, want[0].Tick, api.OK)
		got := a.Due(0)
		checkTold(t, append(got, a.Rest()...), want...)
		checkTold(t, first, wrote...)
		checkTold(t, more, wroteMore...)
	}
}

// R2: nor is what stands behind a list, in its room, written into.
func TestWhatStandsBehindAListStays(t *testing.T) {
	all := at(1, 2, 3, 4, 5, 6, 7, 8)
	was := slices.Clone(all)
	a, _ := New(all[:2])
	a.Put(all[4:5]...)
	a.Put(api.Event{Tick: -1, Addr: 99}, api.Event{Tick: 3, Addr: 98})
	a.Due(1)
	a.Put(all[6:7]...)
	a.Rest()
	checkTold(t, all, was...)
}

// R2: what is written into what was told, or behind it, changes nothing that is told later, nor is what was told changed by what is asked for later.
func TestWhatIsToldIsNew(t *testing.T) {
	c := chance(11)
	spoil := func(l []api.Event) {
		l = l[:cap(l)]
		for i := range l {
			l[i] = api.Event{Tick: least, Addr: -9}
		}
	}
	for range 20 {
		b := made(t, c.events(300)...)
		for _, tick := range []int{-3, -1, 0, 2} {
			spoil(b.due(t, tick))
			b.look(t)
			b.puts(t, c.events(100)...)
		}
		spoil(b.rest(t))
		b.look(t)
		b.puts(t, c.events(100)...)
		early := b.due(t, 0)
		was := slices.Clone(early)
		b.puts(t, c.events(100)...)
		late := b.rest(t)
		wasLate := slices.Clone(late)
		b.puts(t, c.events(1000)...)
		b.rest(t)
		checkTold(t, early, was...)
		checkTold(t, late, wasLate...)
	}
}

// R5: what is told hangs on what was put and asked for alone.
func TestAskedAgain(t *testing.T) {
	run := func() (all []api.Event) {
		c := chance(12)
		a, _ := New(c.events(200))
		for range 50 {
			a.Put(c.events(c.next(30))...)
			all = append(all, a.Due(c.tick())...)
		}
		return append(all, a.Rest()...)
	}
	first := run()
	for range 5 {
		checkTold(t, run(), first...)
	}
}
