package shape

import (
	"math"
	"slices"
	"testing"

	"bracken/api"
)

// wrongDims may not be: none, too many, one too short, too much in them, some with a product that comes around to one that might be.
func wrongDims() [][]int {
	return [][]int{
		nil, {}, {1, 1, 1, 1, 1}, {2, 2, 2, 2, 2}, {1, 1, 1, 1, 1, 1}, {2, 3, 4, 5, 0}, make([]int, 5), slices.Repeat([]int{1}, 65537),
		{0}, {0, 0}, {0, 5}, {5, 0}, {4096, 0}, {0, 4096}, {0, 4097}, {4097, 0}, {1, 0, 1}, {1, 1, 1, 0}, {2, 0, 2, 2},
		{-1}, {-4096}, {-1, -1}, {-2, -3}, {3, -1}, {-1, 3}, {2, -3, 4}, {1, 1, 1, -1}, {-1, -1, -1, -1}, {-64, -64}, {-1, 0}, {0, -1},
		{math.MinInt}, {math.MinInt + 1}, {1, math.MinInt}, {math.MinInt, 1}, {math.MinInt, 2}, {math.MinInt, math.MinInt}, {math.MinInt, -1}, {2, 2, 2, math.MinInt},
		{math.MaxInt}, {math.MaxInt - 1}, {1, math.MaxInt}, {math.MaxInt, 1}, {math.MaxInt, math.MaxInt}, {math.MaxInt, math.MinInt}, {1, 1, math.MaxInt, math.MaxInt}, {math.MaxInt, 0},
		{4097}, {4098}, {4099}, {8192}, {1, 4097}, {4097, 1}, {17, 241}, {241, 17}, {1, 17, 1, 241}, {2, 2049}, {2049, 2}, {64, 65}, {65, 64}, {4096, 2}, {2, 4096}, {3, 1366}, {1366, 3},
		{4096, 4096}, {1, 1, 4096, 2}, {8, 8, 8, 9}, {9, 8, 8, 8}, {16, 16, 17}, {17, 16, 16}, {2, 2, 2, 513}, {4096, 1, 1, 2}, {1, 1, 2, 2049},
		{1 << 12, 1 << 12, 1 << 12, 1 << 12}, {4096, 4096, 4096, 4096}, {1 << 40, 1 << 40}, {1 << 32, 1 << 32}, {1 << 62, 4}, {4, 1 << 62}, {1 << 31, 1 << 31, 4}, {1 << 63 / 3, 3, 3},
		{6700417, 641, 4294967297}, {641, 6700417, 641, 6700417}, {2, 1<<63 - 1}, {3, 6148914691236517206}, {1, 3, 6148914691236517207}, {5, 3689348814741910324},
		{65536, 65536, 65536, 65536}, {1 << 32, 1 << 32, 1 << 32, 1 << 32}, {4096, 1 << 52, 1}, {1, 4096, 1 << 52}, {1 << 52, 4096},
	}
}

// smallDims are all axes of some lengths, one to four of them.
func smallDims() [][]int {
	lengths := []int{1, 2, 3, 4, 7}
	all := [][]int{nil}
	for first := 0; len(all[first]) < 4; first++ {
		for _, d := range lengths {
			all = append(all, append(slices.Clone(all[first]), d))
		}
	}
	return all[1:]
}

// greatDims have 4096 words, or nearly, or an axis of length 1 where it may be forgotten.
func greatDims() [][]int {
	return [][]int{
		{4096}, {4095}, {4093}, {1, 4096}, {4096, 1}, {4096, 1, 1, 1}, {1, 4096, 1, 1}, {1, 1, 4096, 1}, {1, 1, 1, 4096},
		{64, 64}, {63, 65}, {65, 63}, {2, 2048}, {2048, 2}, {2, 1, 2048}, {16, 16, 16}, {1, 16, 256}, {16, 1, 256}, {16, 256, 1}, {15, 16, 17},
		{8, 8, 8, 8}, {7, 8, 8, 9}, {2, 2, 2, 512}, {512, 2, 2, 2}, {2, 1024, 1, 2}, {5, 819}, {819, 5}, {3, 5, 7, 13}, {1, 13, 1, 315}, {1365, 3, 1, 1},
	}
}

// wantAll are the coordinates of all words in order of their places, by the words of the document: the last one goes fastest.
func wantAll(dims []int) [][]int {
	if len(dims) == 0 {
		return [][]int{nil}
	}
	var l [][]int
	ahead := wantAll(dims[:len(dims)-1])
	for _, c := range ahead {
		for last := range dims[len(dims)-1] {
			l = append(l, append(slices.Clone(c), last))
		}
	}
	return l
}

// wantLines are the lines of an axis, by the words of the document: words go together that have the same coordinates but of that axis.
func wantLines(words [][]int, axis int) [][]int {
	var lines [][]int
	which := map[[4]int]int{}
	for place, c := range words {
		var same [4]int
		copy(same[:], c)
		same[axis] = -1
		k, known := which[same]
		if !known {
			k = len(lines)
			which[same] = k
			lines = append(lines, nil)
		}
		lines[k] = append(lines[k], place)
	}
	return lines
}

// outside are places that are not 0 to n less 1.
func outside(n int) []int {
	return []int{-1, -2, -n, -n - 1, math.MinInt, math.MinInt + 1, n, n + 1, 2 * n, 1 << 32, 1<<32 + n - 1, math.MaxInt - 1, math.MaxInt}
}

func checkAll(t *testing.T, dims []int, want int) {
	t.Helper()
	if got, e := All(dims); got != want || e != api.OK {
		t.Errorf("All(%v) is %d, %d, want %d", dims, got, e, want)
	}
}

func checkCoord(t *testing.T, dims []int, i int, want []int) {
	t.Helper()
	if got, e := Coord(dims, i); !slices.Equal(got, want) || e != api.OK {
		t.Errorf("Coord(%v, %d) is %v, %d, want %v", dims, i, got, e, want)
	}
}

func checkFlat(t *testing.T, dims, c []int, want int) {
	t.Helper()
	if got, e := Flat(dims, c); got != want || e != api.OK {
		t.Errorf("Flat(%v, %v) is %d, %d, want %d", dims, c, got, e, want)
	}
}

func checkInner(t *testing.T, dims []int, axis, want int) {
	t.Helper()
	if got, e := Inner(dims, axis); got != want || e != api.OK {
		t.Errorf("Inner(%v, %d) is %d, %d, want %d", dims, axis, got, e, want)
	}
}

func checkLine(t *testing.T, dims []int, axis, k int, want []int) {
	t.Helper()
	if got, e := Line(dims, axis, k); !slices.Equal(got, want) || e != api.OK {
		t.Errorf("Line(%v, %d, %d) is %v, %d, want %v", dims, axis, k, got, e, want)
	}
}

func checkNoCoord(t *testing.T, dims []int, i int, want api.Errno) {
	t.Helper()
	if got, e := Coord(dims, i); len(got) != 0 || e != want {
		t.Errorf("Coord(%v, %d) is %v, %d, want %d", dims, i, got, e, want)
	}
}

func checkNoFlat(t *testing.T, dims, c []int, want api.Errno) {
	t.Helper()
	if got, e := Flat(dims, c); got != 0 || e != want {
		t.Errorf("Flat(%v, %v) is %d, %d, want %d", dims, c, got, e, want)
	}
}

func checkNoInner(t *testing.T, dims []int, axis int, want api.Errno) {
	t.Helper()
	if got, e := Inner(dims, axis); got != 0 || e != want {
		t.Errorf("Inner(%v, %d) is %d, %d, want %d", dims, axis, got, e, want)
	}
}

func checkNoLine(t *testing.T, dims []int, axis, k int, want api.Errno) {
	t.Helper()
	if got, e := Line(dims, axis, k); len(got) != 0 || e != want {
		t.Errorf("Line(%v, %d, %d) is %v, %d, want %d", dims, axis, k, got, e, want)
	}
}

// P5.1
func TestPlacesWrittenOut(t *testing.T) {
	for _, x := range []struct {
		dims []int
		all  int
		c    []int
		i    int
	}{
		{[]int{1}, 1, []int{0}, 0},
		{[]int{7}, 7, []int{6}, 6},
		{[]int{2, 3}, 6, []int{0, 0}, 0},
		{[]int{2, 3}, 6, []int{0, 2}, 2},
		{[]int{2, 3}, 6, []int{1, 0}, 3},
		{[]int{2, 3}, 6, []int{1, 2}, 5},
		{[]int{3, 2}, 6, []int{1, 0}, 2},
		{[]int{2, 3, 4}, 24, []int{1, 0, 2}, 14},
		{[]int{2, 3, 4, 5}, 120, []int{1, 2, 3, 4}, 119},
		{[]int{2, 3, 4, 5}, 120, []int{1, 1, 1, 1}, 86},
		{[]int{5, 1, 1, 3}, 15, []int{4, 0, 0, 1}, 13},
		{[]int{1, 1, 1, 1}, 1, []int{0, 0, 0, 0}, 0},
		{[]int{64, 64}, 4096, []int{63, 62}, 4094},
		{[]int{4096}, 4096, []int{4095}, 4095},
		{[]int{1, 4096}, 4096, []int{0, 17}, 17},
		{[]int{4096, 1, 1, 1}, 4096, []int{4094, 0, 0, 0}, 4094},
		{[]int{15, 16, 17}, 4080, []int{14, 0, 16}, 3824},
	} {
		checkAll(t, x.dims, x.all)
		checkCoord(t, x.dims, x.i, x.c)
		checkFlat(t, x.dims, x.c, x.i)
	}
}

// P5.2
func TestLinesWrittenOut(t *testing.T) {
	for _, x := range []struct {
		dims           []int
		axis, inner, k int
		line           []int
	}{
		{[]int{1}, 0, 1, 0, []int{0}},
		{[]int{4}, 0, 1, 0, []int{0, 1, 2, 3}},
		{[]int{2, 3}, 0, 3, 0, []int{0, 3}},
		{[]int{2, 3}, 0, 3, 1, []int{1, 4}},
		{[]int{2, 3}, 0, 3, 2, []int{2, 5}},
		{[]int{2, 3}, 1, 1, 0, []int{0, 1, 2}},
		{[]int{2, 3}, 1, 1, 1, []int{3, 4, 5}},
		{[]int{2, 3, 4}, 0, 12, 11, []int{11, 23}},
		{[]int{2, 3, 4}, 1, 4, 3, []int{3, 7, 11}},
		{[]int{2, 3, 4}, 1, 4, 4, []int{12, 16, 20}},
		{[]int{2, 3, 4}, 2, 1, 5, []int{20, 21, 22, 23}},
		{[]int{2, 3, 2, 3}, 0, 18, 7, []int{7, 25}},
		{[]int{2, 3, 2, 3}, 1, 6, 7, []int{19, 25, 31}},
		{[]int{2, 3, 2, 3}, 2, 3, 7, []int{13, 16}},
		{[]int{2, 3, 2, 3}, 3, 1, 7, []int{21, 22, 23}},
		{[]int{3, 1, 2}, 1, 2, 5, []int{5}},
		{[]int{1, 1, 1, 1}, 2, 1, 0, []int{0}},
		{[]int{2, 2048}, 0, 2048, 2047, []int{2047, 4095}},
		{[]int{2048, 2}, 1, 1, 2047, []int{4094, 4095}},
	} {
		checkInner(t, x.dims, x.axis, x.inner)
		checkLine(t, x.dims, x.axis, x.k, x.line)
	}
}

// P5.1, P5.3: each place against its definition, and just outside of all.
func TestEachPlace(t *testing.T) {
	for _, dims := range append(smallDims(), greatDims()...) {
		words := wantAll(dims)
		checkAll(t, dims, len(words))
		for i, c := range words {
			checkCoord(t, dims, i, c)
			checkFlat(t, dims, c, i)
		}
		for _, i := range outside(len(words)) {
			checkNoCoord(t, dims, i, api.ErrArg)
		}
	}
}

// P5.2: each line against its definition, and one that there is not.
func TestEachLine(t *testing.T) {
	for _, dims := range append(smallDims(), greatDims()...) {
		words := wantAll(dims)
		for axis := range dims {
			lines := wantLines(words, axis)
			for k, line := range lines {
				checkLine(t, dims, axis, k, line)
			}
			for _, k := range outside(len(lines)) {
				checkNoLine(t, dims, axis, k, api.ErrArg)
			}
			checkInner(t, dims, axis, len(wantAll(dims[axis+1:])))
		}
	}
}

// P5.3: coordinates and places tell each other, without the definition.
func TestCoordAndFlatUndoEachOther(t *testing.T) {
	for _, dims := range append(smallDims(), greatDims()...) {
		all, _ := All(dims)
		for i := range all {
			c, e := Coord(dims, i)
			if e != api.OK {
				t.Errorf("Coord(%v, %d) is %d", dims, i, e)
			}
			checkFlat(t, dims, c, i)
		}
	}
}

// P5.2, P5.3: each place is in just one line of each axis, lines stand in order of their first places, and places in order of that axis.
func TestEachPlaceIsInOneLine(t *testing.T) {
	for _, dims := range append(smallDims(), greatDims()...) {
		all, _ := All(dims)
		for axis, d := range dims {
			seen := make([]bool, all)
			before := -1
			for k := range all / d {
				line, e := Line(dims, axis, k)
				if e != api.OK || len(line) != d || line[0] <= before {
					t.Fatalf("Line(%v, %d, %d) is %v, %d", dims, axis, k, line, e)
				}
				before = line[0]
				for along, place := range line {
					if c, _ := Coord(dims, place); seen[place] || c[axis] != along {
						t.Errorf("Line(%v, %d, %d) is %v", dims, axis, k, line)
					}
					seen[place] = true
				}
			}
			if slices.Contains(seen, false) {
				t.Errorf("of %v a place is in no line of axis %d", dims, axis)
			}
		}
	}
}

// P5.1, P5.2: ErrDims is told, not ErrArg, whatever else is wrong.
func TestWrongDims(t *testing.T) {
	edges := []int{0, 1, -1, 3, 4, 5, 4095, 4096, math.MinInt, math.MaxInt}
	for _, dims := range wrongDims() {
		if got, e := All(dims); got != 0 || e != api.ErrDims {
			t.Errorf("All(%v) is %d, %d", dims, got, e)
		}
		for _, i := range edges {
			checkNoCoord(t, dims, i, api.ErrDims)
			checkNoInner(t, dims, i, api.ErrDims)
			for _, k := range edges {
				checkNoLine(t, dims, i, k, api.ErrDims)
			}
		}
		for _, c := range [][]int{nil, {}, {0}, {-1}, {0, 0}, {0, 0, 0, 0}, {0, 0, 0, 0, 0}, make([]int, len(dims)), dims, {math.MinInt, math.MaxInt}} {
			checkNoFlat(t, dims, c, api.ErrDims)
		}
	}
}

// P5.1: what may be is at most 4096 together, whichever way it is shared out.
func TestJustSoMany(t *testing.T) {
	for a := 1; a <= 4200; a++ {
		for b := max(1, 4096/a-1); b <= 4096/a+2; b++ {
			for _, dims := range [][]int{{a, b}, {b, a}, {1, a, b}, {a, 1, 1, b}} {
				want, wantErr := a*b, api.OK
				if want > 4096 {
					want, wantErr = 0, api.ErrDims
				}
				if got, e := All(dims); got != want || e != wantErr {
					t.Errorf("All(%v) is %d, %d, want %d, %d", dims, got, e, want, wantErr)
				}
			}
		}
	}
}

// P5.1: too few coordinates, too many, and none.
func TestFlatOfTooFewOrTooMany(t *testing.T) {
	for _, dims := range append(smallDims(), greatDims()...) {
		for many := range 7 {
			if many != len(dims) {
				checkNoFlat(t, dims, make([]int, many), api.ErrArg)
			}
		}
		checkNoFlat(t, dims, nil, api.ErrArg)
		checkNoFlat(t, dims, append(make([]int, len(dims)), -1), api.ErrArg)
		checkNoFlat(t, dims, make([]int, 65537), api.ErrArg)
	}
}

// P5.1: each coordinate below 0, or not below its axis, while all others may be.
func TestFlatOfWrongCoordinates(t *testing.T) {
	for _, dims := range append(smallDims(), greatDims()...) {
		last := slices.Clone(dims)
		for axis := range last {
			last[axis]--
		}
		for _, others := range [][]int{make([]int, len(dims)), last} {
			for axis, d := range dims {
				for _, wrong := range outside(d) {
					c := slices.Clone(others)
					c[axis] = wrong
					checkNoFlat(t, dims, c, api.ErrArg)
				}
			}
		}
		if len(dims) > 1 {
			c := slices.Clone(last)
			c[0], c[1] = dims[0], -1
			checkNoFlat(t, dims, c, api.ErrArg)
		}
	}
}

// P5.2: an axis of -1, of just as many as there are, and further off, whatever the line.
func TestWrongAxis(t *testing.T) {
	for _, dims := range append(smallDims(), greatDims()...) {
		for _, axis := range outside(len(dims)) {
			checkNoInner(t, dims, axis, api.ErrArg)
			for _, k := range []int{0, -1, 1, 4096, math.MinInt, math.MaxInt} {
				checkNoLine(t, dims, axis, k, api.ErrArg)
			}
		}
	}
}

// What is handed in stays as it was, with what stands behind it.
func TestWhatIsHandedInStays(t *testing.T) {
	for _, behind := range append(append(smallDims(), greatDims()...), wrongDims()...) {
		handed := append(slices.Clone(behind), 2, 3)
		before := slices.Clone(handed)
		dims := handed[:len(behind)]
		c := append(make([]int, len(behind)), 5, 6)
		cBefore := slices.Clone(c)
		All(dims)
		for _, i := range []int{0, 1, -1} {
			Coord(dims, i)
			Inner(dims, i)
			Line(dims, i, 0)
			Line(dims, 0, i)
		}
		Flat(dims, c[:len(behind)])
		Flat(dims, c)
		if !slices.Equal(handed, before) || !slices.Equal(c, cBefore) {
			t.Errorf("of %v and %v %v and %v is left", before, cBefore, handed, c)
		}
	}
}

// Coordinates may be the axes themselves, and are not taken for them.
func TestOneListForBoth(t *testing.T) {
	dims := []int{2, 3}
	checkNoFlat(t, dims, dims, api.ErrArg)
	checkFlat(t, dims, []int{1, 2}, 5)
	if !slices.Equal(dims, []int{2, 3}) {
		t.Errorf("%v is left", dims)
	}
}

// What is told is new at each call: whoever has it may write into it, to its capacity.
func TestWhatIsToldIsNew(t *testing.T) {
	for _, dims := range append(smallDims(), greatDims()...) {
		before := slices.Clone(dims)
		c, _ := Coord(dims, 0)
		wantC := slices.Clone(c)
		line, _ := Line(dims, 0, 0)
		wantLine := slices.Clone(line)
		for _, l := range [][]int{c, line} {
			l = l[:cap(l)]
			for i := range l {
				l[i] = -1
			}
		}
		if !slices.Equal(dims, before) {
			t.Errorf("of %v %v is left", before, dims)
		}
		checkCoord(t, dims, 0, wantC)
		checkLine(t, dims, 0, 0, wantLine)
	}
}
