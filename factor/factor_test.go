package factor

import (
	"math"
	"slices"
	"testing"

	"bracken/api"
)

// wrongSizes may not be: below 1, beyond 4096 (some of them products of 2s, 3s and 5s), or with another part.
func wrongSizes() []int {
	return []int{
		0, -1, -2, -3, -4, -5, -8, -120, -4096, -4097, math.MinInt, math.MinInt + 1,
		4097, 4098, 4100, 4320, 4374, 5000, 6561, 8192, 15625, 1 << 32, 1<<32 + 1, 1<<32 + 120, 1 << 62, math.MaxInt - 1, math.MaxInt,
		7, 11, 13, 14, 21, 28, 35, 49, 77, 121, 210, 840, 2401, 4089, 4091, 4093, 4094, 4095,
	}
}

// counts tells how many 2s, 3s and 5s n has, and whether nothing else is left over.
func counts(n int) (many [6]int, only bool) {
	for _, q := range []int{2, 3, 5} {
		for n%q == 0 {
			n /= q
			many[q]++
		}
	}
	return many, n == 1
}

// smoothSizes are all products of 2s, 3s and 5s up to 4096, multiplied out.
func smoothSizes() []int {
	var l []int
	for a := 1; a <= 4096; a *= 2 {
		for b := a; b <= 4096; b *= 3 {
			for c := b; c <= 4096; c *= 5 {
				l = append(l, c)
			}
		}
	}
	slices.Sort(l)
	return l
}

// wantRadices are the radices of a size, by the words of the document.
func wantRadices(n int) []int {
	many, _ := counts(n)
	l := slices.Repeat([]int{4}, many[2]/2)
	l = append(l, slices.Repeat([]int{2}, many[2]%2)...)
	l = append(l, slices.Repeat([]int{3}, many[3])...)
	return append(l, slices.Repeat([]int{5}, many[5])...)
}

func product(l []int) int {
	all := 1
	for _, a := range l {
		all *= a
	}
	return all
}

// wantStages are the stages of a size, by the words of the document.
func wantStages(n int) []api.Stage {
	var l []api.Stage
	radices := wantRadices(n)
	for i, r := range radices {
		l = append(l, api.Stage{R: r, L: product(radices[:i]), M: product(radices[i+1:])})
	}
	return l
}

func checkSize(t *testing.T, n int, radices []int, stages []api.Stage) {
	t.Helper()
	if !Smooth(n) {
		t.Errorf("%d may not be", n)
	}
	if got, e := Radices(n); !slices.Equal(got, radices) || e != api.OK {
		t.Errorf("Radices(%d) is %v, %d, want %v", n, got, e, radices)
	}
	if got, e := Stages(n); !slices.Equal(got, stages) || e != api.OK {
		t.Errorf("Stages(%d) is %v, %d, want %v", n, got, e, stages)
	}
	if e := Check(n, stages); e != api.OK {
		t.Errorf("Check(%d, %v) is %d", n, stages, e)
	}
}

func checkNoSize(t *testing.T, n int) {
	t.Helper()
	if Smooth(n) {
		t.Errorf("%d may be", n)
	}
	if got, e := Radices(n); len(got) != 0 || e != api.ErrSize {
		t.Errorf("Radices(%d) is %v, %d", n, got, e)
	}
	if got, e := Stages(n); len(got) != 0 || e != api.ErrSize {
		t.Errorf("Stages(%d) is %v, %d", n, got, e)
	}
	for _, l := range [][]api.Stage{nil, {}, {{}}, {{R: n, L: 1, M: 1}}, {{R: 4, L: 1, M: 1024}}, {{R: 2, L: 1, M: n / 2}, {R: n / 2, L: 2, M: 1}}, wantStages(4096)} {
		if e := Check(n, l); e != api.ErrSize {
			t.Errorf("Check(%d, %v) is %d", n, l, e)
		}
	}
}

// P4.1
func TestSizesWrittenOut(t *testing.T) {
	for _, x := range []struct {
		n       int
		radices []int
		stages  []api.Stage
	}{
		{1, nil, nil},
		{2, []int{2}, []api.Stage{{R: 2, L: 1, M: 1}}},
		{3, []int{3}, []api.Stage{{R: 3, L: 1, M: 1}}},
		{4, []int{4}, []api.Stage{{R: 4, L: 1, M: 1}}},
		{5, []int{5}, []api.Stage{{R: 5, L: 1, M: 1}}},
		{6, []int{2, 3}, []api.Stage{{R: 2, L: 1, M: 3}, {R: 3, L: 2, M: 1}}},
		{8, []int{4, 2}, []api.Stage{{R: 4, L: 1, M: 2}, {R: 2, L: 4, M: 1}}},
		{16, []int{4, 4}, []api.Stage{{R: 4, L: 1, M: 4}, {R: 4, L: 4, M: 1}}},
		{30, []int{2, 3, 5}, []api.Stage{{R: 2, L: 1, M: 15}, {R: 3, L: 2, M: 5}, {R: 5, L: 6, M: 1}}},
		{120, []int{4, 2, 3, 5}, []api.Stage{{R: 4, L: 1, M: 30}, {R: 2, L: 4, M: 15}, {R: 3, L: 8, M: 5}, {R: 5, L: 24, M: 1}}},
		{225, []int{3, 3, 5, 5}, []api.Stage{{R: 3, L: 1, M: 75}, {R: 3, L: 3, M: 25}, {R: 5, L: 9, M: 5}, {R: 5, L: 45, M: 1}}},
		{2048, []int{4, 4, 4, 4, 4, 2}, []api.Stage{{R: 4, L: 1, M: 512}, {R: 4, L: 4, M: 128}, {R: 4, L: 16, M: 32}, {R: 4, L: 64, M: 8}, {R: 4, L: 256, M: 2}, {R: 2, L: 1024, M: 1}}},
		{4096, []int{4, 4, 4, 4, 4, 4}, []api.Stage{{R: 4, L: 1, M: 1024}, {R: 4, L: 4, M: 256}, {R: 4, L: 16, M: 64}, {R: 4, L: 64, M: 16}, {R: 4, L: 256, M: 4}, {R: 4, L: 1024, M: 1}}},
	} {
		checkSize(t, x.n, x.radices, x.stages)
	}
}

// P4.1, P4.2: each n from 1 to 4096 against its definition.
func TestEachSize(t *testing.T) {
	for n := 1; n <= 4096; n++ {
		if _, only := counts(n); !only {
			checkNoSize(t, n)
			continue
		}
		checkSize(t, n, wantRadices(n), wantStages(n))
	}
}

// P4.1: the sizes that may be are just these products.
func TestSizesMultipliedOut(t *testing.T) {
	var l []int
	for n := -10; n <= 10000; n++ {
		if Smooth(n) {
			l = append(l, n)
		}
	}
	if want := smoothSizes(); !slices.Equal(l, want) {
		t.Errorf("these may be: %v, want %v", l, want)
	}
}

// P4.1, P4.2: ErrSize is told, not ErrArg, whatever the list.
func TestWrongSizes(t *testing.T) {
	for _, n := range wrongSizes() {
		checkNoSize(t, n)
	}
}

// P4.2: what would be the stages of a size beyond 4096, if it might be, are none.
func TestCheckBeyondTheGreatestSize(t *testing.T) {
	for _, n := range []int{4320, 5000, 6561, 8192, 1 << 32} {
		if e := Check(n, wantStages(n)); e != api.ErrSize {
			t.Errorf("Check(%d, %v) is %d", n, wantStages(n), e)
		}
	}
}

func checkNotIts(t *testing.T, n int, l []api.Stage) {
	t.Helper()
	if e := Check(n, l); e != api.ErrArg {
		t.Errorf("Check(%d, %v) is %d", n, l, e)
	}
}

// P4.2
func TestCheckOfTooManyOrTooFew(t *testing.T) {
	for _, n := range smoothSizes() {
		l := wantStages(n)
		for _, more := range []api.Stage{{}, {R: 1, L: n, M: 1}, {R: 1, L: 1, M: n}, {R: 2, L: n, M: 1}, {R: 4, L: 1, M: n}} {
			checkNotIts(t, n, append(slices.Clone(l), more))
			checkNotIts(t, n, append([]api.Stage{more}, l...))
		}
		for i := range l {
			checkNotIts(t, n, l[:i])
			checkNotIts(t, n, l[i+1:])
			checkNotIts(t, n, slices.Delete(slices.Clone(l), i, i+1))
			checkNotIts(t, n, slices.Insert(slices.Clone(l), i, l[i]))
		}
	}
}

// P4.2: of 1 none are the stages, nil or empty, and nothing else is.
func TestCheckOfNone(t *testing.T) {
	for _, n := range smoothSizes() {
		for _, l := range [][]api.Stage{nil, {}} {
			want := api.ErrArg
			if n == 1 {
				want = api.OK
			}
			if e := Check(n, l); e != want {
				t.Errorf("Check(%d, %v) is %d, want %d", n, l, e, want)
			}
		}
	}
}

// P4.2: the same stages, in another order.
func TestCheckOfAnotherOrder(t *testing.T) {
	for _, n := range smoothSizes() {
		l := wantStages(n)
		for i := range l {
			for j := range i {
				swapped := slices.Clone(l)
				swapped[i], swapped[j] = swapped[j], swapped[i]
				checkNotIts(t, n, swapped)
			}
		}
		if len(l) > 1 {
			slices.Reverse(l)
			checkNotIts(t, n, l)
		}
	}
}

// P4.2: stages that go together, but whose radices stand in another order, or are others.
func TestCheckOfOtherRadices(t *testing.T) {
	for n, others := range map[int][][]int{
		4:    {{2, 2}},
		6:    {{3, 2}, {6}},
		8:    {{2, 4}, {2, 2, 2}, {8}},
		12:   {{3, 4}, {2, 2, 3}, {2, 3, 2}, {12}, {4, 1, 3}},
		15:   {{5, 3}, {15}},
		120:  {{2, 4, 3, 5}, {4, 2, 5, 3}, {5, 3, 2, 4}, {4, 3, 2, 5}, {2, 2, 2, 3, 5}, {8, 3, 5}},
		4096: {{2, 2, 2, 2, 2, 2, 2, 2, 2, 2, 2, 2}, {4, 4, 4, 4, 4, 2, 2}, {16, 16, 16}},
	} {
		for _, radices := range others {
			var l []api.Stage
			for i, r := range radices {
				l = append(l, api.Stage{R: r, L: product(radices[:i]), M: product(radices[i+1:])})
			}
			checkNotIts(t, n, l)
		}
	}
}

// P4.2: each of the three numbers of each stage, made another.
func TestCheckOfAChangedStage(t *testing.T) {
	for _, n := range smoothSizes() {
		l := wantStages(n)
		for i, s := range l {
			for _, by := range []int{1, -1, s.R, -s.R, 1 << 32, math.MinInt} {
				for _, other := range []api.Stage{{R: s.R + by, L: s.L, M: s.M}, {R: s.R, L: s.L + by, M: s.M}, {R: s.R, L: s.L, M: s.M + by}} {
					changed := slices.Clone(l)
					changed[i] = other
					checkNotIts(t, n, changed)
				}
			}
			changed := slices.Clone(l)
			changed[i] = api.Stage{}
			checkNotIts(t, n, changed)
			if s.L != s.M {
				changed[i] = api.Stage{R: s.R, L: s.M, M: s.L}
				checkNotIts(t, n, changed)
			}
		}
	}
}

// P4.2: the stages of one size are those of no other.
func TestCheckOfAnotherSize(t *testing.T) {
	all := smoothSizes()
	for _, n := range all {
		for _, m := range all {
			if n != m {
				checkNotIts(t, n, wantStages(m))
			}
		}
	}
}

// P4.3
func TestWhatFollows(t *testing.T) {
	for _, n := range smoothSizes() {
		radices, _ := Radices(n)
		if product(radices) != n {
			t.Errorf("the product of %v is not %d", radices, n)
		}
		twos := 0
		for _, r := range radices {
			if r == 2 {
				twos++
			}
		}
		if twos > 1 {
			t.Errorf("there are %d 2s in %v", twos, radices)
		}
		stages, _ := Stages(n)
		if len(stages) != len(radices) {
			t.Errorf("%d has %d radices and %d stages", n, len(radices), len(stages))
		}
		for i, s := range stages {
			if s.R*s.L*s.M != n || s.R != radices[i] {
				t.Errorf("stage %d of %d is %v", i, n, s)
			}
		}
	}
}

// P4.1: what is told is new at each call: whoever has it may write into it, to its capacity.
func TestWhatIsToldIsNew(t *testing.T) {
	for _, n := range smoothSizes() {
		radices, _ := Radices(n)
		radices = radices[:cap(radices)]
		for i := range radices {
			radices[i] = -1
		}
		stages, _ := Stages(n)
		stages = stages[:cap(stages)]
		for i := range stages {
			stages[i] = api.Stage{R: -1, L: -1, M: -1}
		}
		checkSize(t, n, wantRadices(n), wantStages(n))
	}
}

// P4.2: what is asked about stays as it is.
func TestCheckLeavesItsList(t *testing.T) {
	for _, n := range append(smoothSizes(), wrongSizes()...) {
		l := wantStages(120)
		before := slices.Clone(l)
		Check(n, l[:3])
		if !slices.Equal(l, before) {
			t.Errorf("Check(%d, ..) left %v", n, l)
		}
	}
}

// The radices may be left off anywhere, and begin anew with each range.
func TestRadicesLeftOff(t *testing.T) {
	for _, n := range smoothSizes() {
		want := wantRadices(n)
		one := radices(n)
		for many := range len(want) + 1 {
			var got []int
			for r := range one {
				if len(got) == many {
					break
				}
				got = append(got, r)
			}
			if !slices.Equal(got, want[:many]) {
				t.Errorf("of %d the first %d radices are %v", n, many, got)
			}
		}
	}
}
