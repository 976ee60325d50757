package vote

import (
	"fmt"
	"math"
	"slices"
	"testing"

	"bracken/api"
)

const greatest = math.MaxUint64

// most is how many words may be put, and so how many threes there may be.
const most = 1024

// kinds are words of all kinds: small ones, such as lie next to each other, and such as have one bit alone.
func kinds() []uint64 {
	return []uint64{0, 1, 2, 3, 9, 1 << 31, 1 << 32, 1<<32 + 1, api.P1, api.P2, api.P0 - 1, api.P0, 1<<63 - 1, 1 << 63, 1<<63 + 1, greatest - 1, greatest}
}

// chance tells numbers by a fixed rule, so that each run has the same.
type chance uint64

func (c *chance) next(below int) int {
	*c = *c*6364136223846793005 + 1442695040888963407
	return int((uint64(*c) >> 33) % uint64(below))
}

// word is now and then one of few, so that lists have some in common.
func (c *chance) word() uint64 {
	if c.next(4) == 0 {
		return kinds()[c.next(len(kinds()))]
	}
	return uint64(c.next(1<<30))<<34 ^ uint64(c.next(1<<30))<<4 ^ uint64(c.next(1<<30))
}

func (c *chance) words(many int) []uint64 {
	l := make([]uint64, many)
	for i := range l {
		l[i] = c.word()
	}
	return l
}

// rising are words of which no two are the same.
func rising(many int) []uint64 {
	l := make([]uint64, many)
	for i := range l {
		l[i] = uint64(i)<<40 + 7
	}
	return l
}

// triples are all lists of three of these.
func triples(of []uint64) [][]uint64 {
	var all [][]uint64
	for _, a := range of {
		for _, b := range of {
			for _, c := range of {
				all = append(all, []uint64{a, b, c})
			}
		}
	}
	return all
}

// thrice is l as it is put, by the words of the document: the word at place i is the one of number i/3.
func thrice(l []uint64) []uint64 {
	cells := make([]uint64, 3*len(l))
	for i := range cells {
		cells[i] = l[i/3]
	}
	return cells
}

// often is how many of l are w.
func often(l []uint64, w uint64) int {
	many := 0
	for _, v := range l {
		if v == w {
			many++
		}
	}
	return many
}

// wantThree counts how often each one is there.
func wantThree(l []uint64) (uint64, []int, api.Errno) {
	if len(l) != 3 {
		return 0, nil, api.ErrLen
	}
	for _, w := range l {
		switch often(l, w) {
		case 3:
			return w, nil, api.OK
		case 2:
			return w, []int{slices.IndexFunc(l, func(v uint64) bool { return v != w })}, api.OK
		}
	}
	return 0, nil, api.ErrLost
}

// wantCells looks for words in one turn, and for fixes, place by place, in another.
func wantCells(l []uint64) ([]uint64, []api.Fix, api.Errno) {
	if len(l) > 3*most {
		return nil, nil, api.ErrArg
	}
	if len(l)%3 != 0 {
		return nil, nil, api.ErrLen
	}
	words := make([]uint64, len(l)/3)
	for i := range words {
		w, _, e := wantThree([]uint64{l[3*i], l[3*i+1], l[3*i+2]})
		if e != api.OK {
			return nil, nil, e
		}
		words[i] = w
	}
	var fixes []api.Fix
	for at, bad := range l {
		if good := words[at/3]; bad != good {
			fixes = append(fixes, api.Fix{Addr: at, Bad: bad, Good: good})
		}
	}
	return words, fixes, api.OK
}

// short is how much of a list a message has.
func short[T any](l []T) string {
	return fmt.Sprintf("%d, %v", len(l), l[:min(len(l), 9)])
}

func checkPut(t *testing.T, l []uint64, want []uint64, wrong api.Errno) {
	t.Helper()
	if got, e := Put(l...); !slices.Equal(got, want) || e != wrong {
		t.Errorf("Put of %s is %s, %d, want %s, %d", short(l), short(got), e, short(want), wrong)
	}
}

func checkThree(t *testing.T, l []uint64, want uint64, at []int, wrong api.Errno) {
	t.Helper()
	if got, places, e := Three(l); got != want || !slices.Equal(places, at) || e != wrong {
		t.Errorf("Three of %s is %d, %v, %d, want %d, %v, %d", short(l), got, places, e, want, at, wrong)
	}
}

func checkCells(t *testing.T, l []uint64, want []uint64, fixed []api.Fix, wrong api.Errno) {
	t.Helper()
	if got, fixes, e := Cells(l); !slices.Equal(got, want) || !slices.Equal(fixes, fixed) || e != wrong {
		t.Errorf("Cells of %s is %s, %s, %d, want %s, %s, %d", short(l), short(got), short(fixes), e, short(want), short(fixed), wrong)
	}
}

// checkCellsError wants an error, and neither words nor fixes.
func checkCellsError(t *testing.T, l []uint64, wrong api.Errno) {
	t.Helper()
	checkCells(t, l, nil, nil, wrong)
}

func TestPutWrittenOut(t *testing.T) {
	checkPut(t, []uint64{7}, []uint64{7, 7, 7}, api.OK)
	checkPut(t, []uint64{4, 5}, []uint64{4, 4, 4, 5, 5, 5}, api.OK)
	checkPut(t, []uint64{5, 4}, []uint64{5, 5, 5, 4, 4, 4}, api.OK)
	checkPut(t, []uint64{3, 3}, []uint64{3, 3, 3, 3, 3, 3}, api.OK)
	checkPut(t, []uint64{0, greatest, 0}, []uint64{0, 0, 0, greatest, greatest, greatest, 0, 0, 0}, api.OK)
}

func TestPutOfNone(t *testing.T) {
	checkPut(t, nil, nil, api.OK)
	checkPut(t, []uint64{}, nil, api.OK)
	if got, e := Put(); len(got) != 0 || e != api.OK {
		t.Errorf("Put of no words is %v, %d", got, e)
	}
}

// Words are handed to Put one by one too.
func TestPutOfWordsOneByOne(t *testing.T) {
	got, e := Put(0, 1, greatest)
	if want := []uint64{0, 0, 0, 1, 1, 1, greatest, greatest, greatest}; !slices.Equal(got, want) || e != api.OK {
		t.Errorf("Put is %v, %d, want %v", got, e, want)
	}
}

func TestPutOfEachWord(t *testing.T) {
	for _, w := range kinds() {
		checkPut(t, []uint64{w}, []uint64{w, w, w}, api.OK)
	}
	checkPut(t, kinds(), thrice(kinds()), api.OK)
}

func TestPutOfEachMany(t *testing.T) {
	for many := range most + 1 {
		l := rising(many)
		checkPut(t, l, thrice(l), api.OK)
	}
}

func TestPutOfAsManyAsMayBe(t *testing.T) {
	if api.MaxCells != most {
		t.Fatalf("MaxCells is %d, want %d", api.MaxCells, most)
	}
	c := chance(1)
	for _, l := range [][]uint64{make([]uint64, most), rising(most), c.words(most), slices.Repeat([]uint64{greatest}, most)} {
		checkPut(t, l, thrice(l), api.OK)
	}
}

func TestPutOfTooMany(t *testing.T) {
	for _, many := range []int{most + 1, most + 2, 2 * most, 3 * most, 3*most + 1, 65536} {
		checkPut(t, make([]uint64, many), nil, api.ErrArg)
		checkPut(t, rising(many), nil, api.ErrArg)
	}
}

// How much room a list has beyond its words is nothing that Put looks at.
func TestPutOfAPart(t *testing.T) {
	l := rising(most + 1)
	checkPut(t, l[:most], thrice(l[:most]), api.OK)
	checkPut(t, l[1:], thrice(l[1:]), api.OK)
	checkPut(t, l[5:5], nil, api.OK)
}

func TestThreeWrittenOut(t *testing.T) {
	checkThree(t, []uint64{5, 9, 5}, 5, []int{1}, api.OK)
	checkThree(t, []uint64{9, 5, 5}, 5, []int{0}, api.OK)
	checkThree(t, []uint64{5, 5, 9}, 5, []int{2}, api.OK)
	checkThree(t, []uint64{5, 5, 5}, 5, nil, api.OK)
	checkThree(t, []uint64{9, 5, 9}, 9, []int{1}, api.OK)
	checkThree(t, []uint64{5, 6, 9}, 0, nil, api.ErrLost)
	checkThree(t, []uint64{0, 0, 0}, 0, nil, api.OK)
	checkThree(t, []uint64{0, 0, 1}, 0, []int{2}, api.OK)
	checkThree(t, []uint64{1, 0, 0}, 0, []int{0}, api.OK)
	checkThree(t, []uint64{greatest, greatest, 0}, greatest, []int{2}, api.OK)
	checkThree(t, []uint64{greatest, 0, greatest - 1}, 0, nil, api.ErrLost)
}

// Of fewer, or more, there is an error, also if two of them, or all, are the same.
func TestThreeOfAnotherMany(t *testing.T) {
	checkThree(t, nil, 0, nil, api.ErrLen)
	checkThree(t, []uint64{}, 0, nil, api.ErrLen)
	for _, many := range []int{1, 2, 4, 5, 6, 7, 9, 12, 1024, 3072, 65536} {
		checkThree(t, make([]uint64, many), 0, nil, api.ErrLen)
		checkThree(t, slices.Repeat([]uint64{5}, many), 0, nil, api.ErrLen)
		checkThree(t, rising(many), 0, nil, api.ErrLen)
	}
	checkThree(t, []uint64{5, 5, 9, 9}, 0, nil, api.ErrLen)
	checkThree(t, []uint64{5, 5, 5, 9}, 0, nil, api.ErrLen)
	checkThree(t, []uint64{9, 5, 5, 5}, 0, nil, api.ErrLen)
}

func TestThreeOfAPart(t *testing.T) {
	l := []uint64{1, 1, 5, 9, 5, 9, 9}
	checkThree(t, l[2:5], 5, []int{1}, api.OK)
	checkThree(t, l[4:], 9, []int{0}, api.OK)
	checkThree(t, l[1:4], 0, nil, api.ErrLost)
	checkThree(t, l[:2], 0, nil, api.ErrLen)
}

func TestThreeByDefinition(t *testing.T) {
	for _, l := range triples(kinds()) {
		want, at, wrong := wantThree(l)
		checkThree(t, l, want, at, wrong)
	}
}

// One bit is enough to be another word, whichever it is.
func TestThreeOfOneBit(t *testing.T) {
	for _, w := range kinds() {
		for bit := range 64 {
			other := w ^ 1<<bit
			for place := range 3 {
				l := []uint64{w, w, w}
				l[place] = other
				checkThree(t, l, w, []int{place}, api.OK)
			}
			third := other ^ 1<<((bit+1)%64)
			for _, l := range [][]uint64{{w, other, third}, {other, w, third}, {third, other, w}} {
				checkThree(t, l, 0, nil, api.ErrLost)
			}
		}
	}
}

func TestCellsWrittenOut(t *testing.T) {
	checkCells(t, []uint64{7, 7, 7}, []uint64{7}, nil, api.OK)
	checkCells(t, []uint64{5, 9, 5}, []uint64{5}, []api.Fix{{Addr: 1, Bad: 9, Good: 5}}, api.OK)
	checkCells(t, []uint64{4, 4, 4, 5, 5, 5}, []uint64{4, 5}, nil, api.OK)
	checkCells(t, []uint64{4, 9, 4, 5, 5, 8}, []uint64{4, 5}, []api.Fix{{Addr: 1, Bad: 9, Good: 4}, {Addr: 5, Bad: 8, Good: 5}}, api.OK)
	checkCells(t, []uint64{0, 4, 4, 5, 5, 5, 1, 1, 0}, []uint64{4, 5, 1}, []api.Fix{{Addr: 0, Bad: 0, Good: 4}, {Addr: 8, Bad: 0, Good: 1}}, api.OK)
	checkCells(t, []uint64{0, greatest, 0, 0, greatest, greatest}, []uint64{0, greatest}, []api.Fix{{Addr: 1, Bad: greatest, Good: 0}, {Addr: 3, Bad: 0, Good: greatest}}, api.OK)
	checkCells(t, make([]uint64, 9), []uint64{0, 0, 0}, nil, api.OK)
	checkCellsError(t, []uint64{4, 9, 4, 5, 7, 8}, api.ErrLost)
}

func TestCellsOfNone(t *testing.T) {
	checkCells(t, nil, nil, nil, api.OK)
	checkCells(t, []uint64{}, nil, nil, api.OK)
}

// A length is too much, or can not be cut into threes, or may be.
func TestCellsOfEachLength(t *testing.T) {
	for many := range 3*most + 10 {
		l := make([]uint64, many)
		switch {
		case many > 3*most:
			checkCellsError(t, l, api.ErrArg)
		case many%3 != 0:
			checkCellsError(t, l, api.ErrLen)
		default:
			checkCells(t, l, l[:many/3], nil, api.OK)
		}
	}
}

func TestCellsOfAsManyAsMayBe(t *testing.T) {
	c := chance(2)
	for _, words := range [][]uint64{rising(most), c.words(most), slices.Repeat([]uint64{greatest}, most)} {
		checkCells(t, thrice(words), words, nil, api.OK)
	}
}

func TestCellsOfTooMany(t *testing.T) {
	for _, more := range []int{1, 2, 3, 4, 6, 3 * most, 65536} {
		checkCellsError(t, make([]uint64, 3*most+more), api.ErrArg)
	}
	checkCellsError(t, thrice(rising(most+1)), api.ErrArg)
}

// lost is what was put of so many words, one three of which is lost.
func lost(many, three int) []uint64 {
	l := thrice(rising(many))
	l[3*three], l[3*three+2] = 1, 2
	return l
}

// Which error is told if several things are wrong: what is too much is told first, then what can not be cut.
func TestCellsThatAreWrongTwice(t *testing.T) {
	for _, three := range []int{0, 1, most - 1} {
		checkCellsError(t, append(lost(most, three), 0), api.ErrArg)
		checkCellsError(t, append(lost(most, three), 0, 0), api.ErrArg)
		checkCellsError(t, append(lost(most, three), 0, 0, 0), api.ErrArg)
	}
	for _, many := range []int{1, 2, 5} {
		for three := range many {
			checkCellsError(t, append(lost(many, three), 0), api.ErrLen)
			checkCellsError(t, append(lost(many, three), 0, 0), api.ErrLen)
		}
	}
	checkCellsError(t, []uint64{1, 2}, api.ErrLen)
	checkCellsError(t, []uint64{1, 2, 3, 4}, api.ErrLen)
}

func TestCellsOfALostThree(t *testing.T) {
	for _, many := range []int{1, 2, 3, 7, most} {
		for three := range many {
			checkCellsError(t, lost(many, three), api.ErrLost)
		}
	}
}

// What is put right ahead of, and behind, a three that is lost is not told either.
func TestCellsOfALostThreeAmongFixes(t *testing.T) {
	for three := range 5 {
		l := lost(5, three)
		for other := range 5 {
			if other != three {
				l[3*other+1] = 99
			}
		}
		checkCellsError(t, l, api.ErrLost)
	}
}

func TestCellsOfTwoLostThrees(t *testing.T) {
	l := append(lost(3, 0), lost(3, 2)...)
	checkCellsError(t, l, api.ErrLost)
	checkCellsError(t, []uint64{1, 2, 3, 4, 5, 6}, api.ErrLost)
}

// A word is held against its own three alone: what the next one has does not count.
func TestCellsOfNeighbours(t *testing.T) {
	checkCellsError(t, []uint64{1, 2, 3, 3, 3, 3}, api.ErrLost)
	checkCellsError(t, []uint64{3, 3, 3, 3, 1, 2}, api.ErrLost)
	checkCells(t, []uint64{1, 1, 2, 2, 1, 2}, []uint64{1, 2}, []api.Fix{{Addr: 2, Bad: 2, Good: 1}, {Addr: 4, Bad: 1, Good: 2}}, api.OK)
}

func TestCellsOfEachPlace(t *testing.T) {
	words := rising(most)
	for at := range 3 * most {
		l := thrice(words)
		good := l[at]
		l[at] = ^good
		checkCells(t, l, words, []api.Fix{{Addr: at, Bad: ^good, Good: good}}, api.OK)
	}
}

func TestCellsOfOneBit(t *testing.T) {
	words := []uint64{0, 5, greatest}
	for at := range 9 {
		for bit := range 64 {
			l := thrice(words)
			good := l[at]
			l[at] ^= 1 << bit
			checkCells(t, l, words, []api.Fix{{Addr: at, Bad: l[at], Good: good}}, api.OK)
		}
	}
}

// All threes of three words, and all two of these threes, and all three.
func TestCellsByDefinition(t *testing.T) {
	threes := triples([]uint64{0, 1, greatest})
	var all [][]uint64
	for _, a := range threes {
		all = append(all, a)
		for _, b := range threes {
			two := slices.Concat(a, b)
			all = append(all, two)
			for _, c := range threes {
				all = append(all, slices.Concat(two, c))
			}
		}
	}
	for _, l := range all {
		words, fixes, wrong := wantCells(l)
		checkCells(t, l, words, fixes, wrong)
	}
}

// What Cells tells is what Three tells of each three.
func TestCellsIsThreeOfEach(t *testing.T) {
	c := chance(3)
	for range 300 {
		l := thrice(c.words(1 + c.next(20)))
		for range c.next(8) {
			l[c.next(len(l))] = c.word()
		}
		var words []uint64
		var fixes []api.Fix
		wrong := api.OK
		for first := 0; first < len(l); first += 3 {
			w, at, e := Three(l[first : first+3])
			if e != api.OK {
				words, fixes, wrong = nil, nil, e
				break
			}
			words = append(words, w)
			for _, place := range at {
				fixes = append(fixes, api.Fix{Addr: first + place, Bad: l[first+place], Good: w})
			}
		}
		checkCells(t, l, words, fixes, wrong)
	}
}

// struck is what was put, with one word of each three made whatever chance tells: often the same, and often one bit of it another.
func (c *chance) struck(cells []uint64) ([]uint64, []api.Fix) {
	l := slices.Clone(cells)
	var fixes []api.Fix
	for first := 0; first < len(l); first += 3 {
		at := first + c.next(3)
		switch c.next(4) {
		case 0:
			l[at] ^= 1 << c.next(64)
		case 1:
			l[at] = c.word()
		case 2:
			l[at] = cells[c.next(len(cells))]
		}
		if l[at] != cells[at] {
			fixes = append(fixes, api.Fix{Addr: at, Bad: l[at], Good: cells[at]})
		}
	}
	return l, fixes
}

func mustPut(t *testing.T, words []uint64) []uint64 {
	t.Helper()
	cells, e := Put(words...)
	if e != api.OK || len(cells) != 3*len(words) {
		t.Fatalf("Put of %s is %s, %d", short(words), short(cells), e)
	}
	return cells
}

func TestOneOfEachThree(t *testing.T) {
	c := chance(4)
	for _, many := range []int{0, 1, 2, 3, 10, 100, most - 1, most} {
		for range 20 {
			words := c.words(many)
			cells := mustPut(t, words)
			checkCells(t, cells, words, nil, api.OK)
			l, fixes := c.struck(cells)
			checkCells(t, l, words, fixes, api.OK)
		}
	}
}

// Of few words each place of each three, and no place, is struck together with each of the others, by each of several words.
func TestOneOfEachThreeInAllWays(t *testing.T) {
	words := []uint64{0, 6, greatest}
	for _, bad := range []uint64{0, 1, 6, 7, 1 << 63, greatest} {
		for way := range 4 * 4 * 4 {
			l := mustPut(t, words)
			var fixes []api.Fix
			for i, place := range []int{way % 4, way / 4 % 4, way / 16} {
				if place == 3 || words[i] == bad {
					continue
				}
				l[3*i+place] = bad
				fixes = append(fixes, api.Fix{Addr: 3*i + place, Bad: bad, Good: words[i]})
			}
			checkCells(t, l, words, fixes, api.OK)
		}
	}
}

// What is put right, put again, is what was put.
func TestPutOfWhatIsTold(t *testing.T) {
	c := chance(5)
	for range 100 {
		cells := mustPut(t, c.words(1+c.next(50)))
		l, _ := c.struck(cells)
		words, fixes, e := Cells(l)
		if e != api.OK {
			t.Fatalf("Cells of %s is %d", short(l), e)
		}
		for _, f := range fixes {
			l[f.Addr] = f.Good
		}
		if !slices.Equal(l, cells) {
			t.Errorf("with its fixes it is %s, want %s", short(l), short(cells))
		}
		checkPut(t, words, cells, api.OK)
	}
}

// inside is a list that stands in a longer one, and that longer one.
func inside(l []uint64) (part, all []uint64) {
	all = slices.Concat([]uint64{77, 78}, l, rising(3*len(l)+20))
	return all[2 : 2+len(l)], all
}

// What is handed in, and what stands ahead of it and behind it, stays as it was, whether there is an error or not.
func TestWhatIsHandedInStays(t *testing.T) {
	c := chance(6)
	struck, _ := c.struck(thrice(c.words(30)))
	for _, l := range [][]uint64{{}, {5}, {5, 6}, {5, 5, 5}, {5, 9, 5}, {9, 5, 5}, {5, 5, 9}, {5, 6, 7}, {1, 1, 1, 2}, struck, lost(4, 0), lost(4, 3), rising(most), rising(most + 1), thrice(rising(most)), rising(3*most + 1)} {
		part, all := inside(l)
		was := slices.Clone(all)
		cells, _ := Put(part...)
		_, places, _ := Three(part)
		words, fixes, _ := Cells(part)
		if !slices.Equal(all, was) {
			t.Fatalf("of %s something was changed", short(l))
		}
		scribble(cells)
		scribble(words)
		for i := range places[:cap(places)] {
			places[:cap(places)][i] = -1
		}
		for i := range fixes[:cap(fixes)] {
			fixes[:cap(fixes)][i] = api.Fix{Addr: -1, Bad: 3, Good: 4}
		}
		if !slices.Equal(all, was) {
			t.Errorf("of %s something was changed by what was written into what was told", short(l))
		}
	}
}

// scribble writes into a list, and into the room behind it.
func scribble(l []uint64) {
	l = l[:cap(l)]
	for i := range l {
		l[i] = ^l[i] - 1
	}
}

// Whoever handed it in may write into it behind the call.
func TestWhatWasToldStays(t *testing.T) {
	c := chance(7)
	for _, many := range []int{1, 2, 3, 40, most} {
		l := c.words(many)
		want := thrice(l)
		got := mustPut(t, l)
		scribble(l)
		if !slices.Equal(got, want) {
			t.Errorf("what Put told of %d words is another one now", many)
		}
	}
	for _, many := range []int{1, 2, 3, 40, most} {
		was := c.words(many)
		l, fixed := c.struck(thrice(was))
		words, fixes, e := Cells(l)
		scribble(l)
		if !slices.Equal(words, was) || !slices.Equal(fixes, fixed) || e != api.OK {
			t.Errorf("what Cells told of %d threes is another one now", many)
		}
	}
}

func TestWhatThreeToldStays(t *testing.T) {
	l := []uint64{5, 9, 5}
	w, at, e := Three(l)
	scribble(l)
	if w != 5 || !slices.Equal(at, []int{1}) || e != api.OK {
		t.Errorf("it is %d, %v, %d", w, at, e)
	}
}

// Nothing is kept: what was told ahead of it, and what became of that, does not count.
func TestAskedAgain(t *testing.T) {
	c := chance(8)
	words := c.words(60)
	l, fixed := c.struck(thrice(words))
	for range 3 {
		checkPut(t, words, thrice(words), api.OK)
		checkCells(t, l, words, fixed, api.OK)
		checkThree(t, []uint64{9, 5, 5}, 5, []int{0}, api.OK)
		cells, _ := Put(words...)
		scribble(cells)
		told, fixes, _ := Cells(l)
		scribble(told)
		clear(fixes)
		_, at, _ := Three([]uint64{9, 5, 5})
		for i := range at {
			at[i] = 2
		}
		checkPut(t, make([]uint64, most+1), nil, api.ErrArg)
		checkThree(t, []uint64{1, 2, 3}, 0, nil, api.ErrLost)
		checkCellsError(t, lost(9, 8), api.ErrLost)
		checkCellsError(t, l[:4], api.ErrLen)
		checkCellsError(t, make([]uint64, 3*most+3), api.ErrArg)
	}
}

// Two lists of one kind that were told share nothing.
func TestWhatIsToldIsNew(t *testing.T) {
	words := []uint64{4, 5, 6}
	l := []uint64{9, 4, 4, 5, 9, 5, 6, 6, 9}
	fixed := []api.Fix{{Addr: 0, Bad: 9, Good: 4}, {Addr: 4, Bad: 9, Good: 5}, {Addr: 8, Bad: 9, Good: 6}}
	first, _ := Put(words...)
	second, _ := Put(words...)
	firstWords, firstFixes, _ := Cells(l)
	secondWords, secondFixes, _ := Cells(l)
	_, firstAt, _ := Three(l[:3])
	_, secondAt, _ := Three(l[:3])
	scribble(first)
	scribble(firstWords)
	clear(firstFixes)
	for i := range firstAt {
		firstAt[i] = 2
	}
	if !slices.Equal(second, thrice(words)) {
		t.Errorf("Put told %v", second)
	}
	if !slices.Equal(secondWords, words) || !slices.Equal(secondFixes, fixed) {
		t.Errorf("Cells told %v, %v", secondWords, secondFixes)
	}
	if !slices.Equal(secondAt, []int{0}) {
		t.Errorf("Three told %v", secondAt)
	}
}
