package bitmap_test

import (
	"errors"
	"math"
	"slices"
	"testing"

	"portage/api"
	"portage/bitmap"
	"portage/fault"
)

// lengths are lengths that are, and are not, as many as words of bits have.
var lengths = []int{0, 1, 2, 62, 63, 64, 65, 100, 127, 128, 129, 192, 1000, api.MaxSectors - 64, api.MaxSectors - 1, api.MaxSectors}

// wantCode demands that err is this bare code.
func wantCode(t *testing.T, what string, err error, code api.Code) {
	t.Helper()
	var f *fault.Fault
	if err != error(code) || !errors.Is(err, code) || errors.As(err, &f) {
		t.Fatalf("%s: %v, not %v", what, err, code)
	}
}

// must demands that a call is not refused.
func must(t *testing.T, what string, err error) {
	t.Helper()
	if err != nil {
		t.Fatalf("%s: %v", what, err)
	}
}

// with is a bitmap of that length with these numbers set.
func with(t *testing.T, n int, numbers ...int) *bitmap.Bitmap {
	t.Helper()
	m, err := bitmap.New(n)
	must(t, "New", err)
	must(t, "Set", m.Set(numbers...))
	return m
}

// all are the numbers below n.
func all(n int) []int {
	list := make([]int, n)
	for i := range list {
		list[i] = i
	}
	return list
}

// wantPlace demands what Free or Next told.
func wantPlace(t *testing.T, what string, number int, ok bool, want int, found bool) {
	t.Helper()
	if number != want || ok != found {
		t.Errorf("%s: %d, %t, not %d, %t", what, number, ok, want, found)
	}
}

// wantRuns demands these stretches.
func wantRuns(t *testing.T, m *bitmap.Bitmap, runs ...bitmap.Run) {
	t.Helper()
	if got := m.Runs(); !slices.Equal(got, runs) {
		t.Errorf("Runs: %v, not %v", got, runs)
	}
}

func TestP7Example(t *testing.T) {
	m, err := bitmap.New(10)
	must(t, "New", err)
	must(t, "Set", m.Set(1, 2, 5))
	wantRuns(t, m, bitmap.Run{From: 1, Len: 2}, bitmap.Run{From: 5, Len: 1})
	number, ok := m.Free(1)
	wantPlace(t, "Free(1)", number, ok, 3, true)
	number, ok = m.Next(3)
	wantPlace(t, "Next(3)", number, ok, 5, true)
}

func TestP7_1New(t *testing.T) {
	for _, n := range lengths {
		m, err := bitmap.New(n)
		if err != nil || m.Len() != n || m.Count() != 0 {
			t.Fatalf("New(%d): %d, %d, %v", n, m.Len(), m.Count(), err)
		}
		wantSet(t, m, n)
	}
}

func TestP7_1NewRefused(t *testing.T) {
	for _, n := range []int{math.MinInt, math.MinInt + 1, -api.MaxSectors, -64, -1, api.MaxSectors + 1, api.MaxSectors + 64, 2 * api.MaxSectors, 1 << 32, 1<<32 + 1, math.MaxInt - 63, math.MaxInt} {
		m, err := bitmap.New(n)
		wantCode(t, "New", err, api.ErrRange)
		if m != nil {
			t.Errorf("New(%d) tells a bitmap beside an error", n)
		}
	}
}

func TestP7_1LenCountAndHas(t *testing.T) {
	m := with(t, 65, 0, 63, 64)
	if m.Len() != 65 || m.Count() != 3 {
		t.Errorf("Len %d, Count %d, not 65, 3", m.Len(), m.Count())
	}
	for _, i := range []int{0, 63, 64} {
		if !m.Has(i) {
			t.Errorf("Has(%d): false", i)
		}
	}
	for _, i := range slices.Concat(below, above, []int{1, 62, 65, 66, 127, 128, 1 << 32, 1<<32 + 63}) {
		if m.Has(i) {
			t.Errorf("Has(%d): true", i)
		}
	}
}

func TestP7_1LenCountAndHasOfAll(t *testing.T) {
	for _, n := range lengths {
		m := with(t, n, all(n)...)
		if m.Len() != n || m.Count() != n {
			t.Errorf("Len %d, Count %d, not %d of each", m.Len(), m.Count(), n)
		}
		wantHas(t, m, slices.Repeat([]bool{true}, n))
	}
}

// TestP7_1EachNumber demands that a number which is set is itself, and no other one.
func TestP7_1EachNumber(t *testing.T) {
	m := with(t, api.MaxSectors)
	for i := range api.MaxSectors {
		must(t, "Set", m.Set(i))
		if m.Count() != 1 || !m.Has(i) {
			t.Fatalf("Set(%d): Count %d, Has %t", i, m.Count(), m.Has(i))
		}
		wantRuns(t, m, bitmap.Run{From: i, Len: 1})
		must(t, "Clear", m.Clear(i))
		if m.Count() != 0 || m.Has(i) {
			t.Fatalf("Clear(%d): Count %d, Has %t", i, m.Count(), m.Has(i))
		}
	}
}

func TestP7_1Grow(t *testing.T) {
	for _, n := range lengths {
		for _, more := range []int{0, 1, 2, 27, 62, 63, 64, 65, 128, 1000, api.MaxSectors - n - 1, api.MaxSectors - n} {
			if more < 0 || n+more > api.MaxSectors {
				continue
			}
			for _, numbers := range [][]int{nil, all(n), all(n)[n/2:], all(n)[:n/2]} {
				m := with(t, n, numbers...)
				must(t, "Grow", m.Grow(more))
				wantSet(t, m, n+more, numbers...)
			}
		}
	}
}

// TestP7_1GrowBehindClear demands that what is new is clear where all that stood in its word was set, and cleared again.
func TestP7_1GrowBehindClear(t *testing.T) {
	m := with(t, 70, all(70)...)
	must(t, "Clear", m.Clear(68, 69))
	must(t, "Grow", m.Grow(2))
	wantSet(t, m, 72, all(68)...)
	must(t, "Set", m.Set(71))
	wantSet(t, m, 72, append(all(68), 71)...)
}

func TestP7_1GrowByAndBy(t *testing.T) {
	m := with(t, 0)
	var numbers []int
	for n := range 200 {
		must(t, "Grow", m.Grow(1))
		wantSet(t, m, n+1, numbers...)
		if n%3 != 1 {
			must(t, "Set", m.Set(n))
			numbers = append(numbers, n)
		}
	}
}

func TestP7_1GrowRefused(t *testing.T) {
	for _, n := range lengths {
		m := with(t, n, all(n)[n/3:]...)
		for _, more := range slices.Concat(below, []int{api.MaxSectors - n + 1, api.MaxSectors - n + 64, api.MaxSectors + 1, 1 << 32, math.MaxInt - n, math.MaxInt - n + 1, math.MaxInt - 63, math.MaxInt}) {
			wantCode(t, "Grow", m.Grow(more), api.ErrRange)
			if m.Len() != n {
				t.Fatalf("Grow(%d) is refused, and the length is %d, not %d", more, m.Len(), n)
			}
		}
		wantSet(t, m, n, all(n)[n/3:]...)
	}
}

// TestP7_1GrowBehindRefused demands that what was refused leaves the room that there is.
func TestP7_1GrowBehindRefused(t *testing.T) {
	m := with(t, 10, 9)
	wantCode(t, "Grow to one above", m.Grow(api.MaxSectors-9), api.ErrRange)
	must(t, "Grow to just MaxSectors", m.Grow(api.MaxSectors-10))
	wantCode(t, "Grow by one more", m.Grow(1), api.ErrRange)
	must(t, "Grow by 0", m.Grow(0))
	must(t, "Set", m.Set(api.MaxSectors-1))
	wantSet(t, m, api.MaxSectors, 9, api.MaxSectors-1)
}

func TestP7_2SetAndClear(t *testing.T) {
	m := with(t, 130)
	for _, c := range []struct {
		name    string
		do      func(...int) error
		numbers []int
		behind  []int
	}{
		{"Set of none", m.Set, nil, nil},
		{"Clear of none", m.Clear, nil, nil},
		{"Clear of what is clear", m.Clear, []int{0, 129}, nil},
		{"Set of one", m.Set, []int{64}, []int{64}},
		{"Set of several", m.Set, []int{129, 0, 63, 5}, []int{0, 5, 63, 64, 129}},
		{"Set of none", m.Set, []int{}, []int{0, 5, 63, 64, 129}},
		{"Set of what is set", m.Set, []int{64, 0}, []int{0, 5, 63, 64, 129}},
		{"Set of both", m.Set, []int{64, 65, 0}, []int{0, 5, 63, 64, 65, 129}},
		{"Set of one twice", m.Set, []int{7, 7}, []int{0, 5, 7, 63, 64, 65, 129}},
		{"Set of several twice", m.Set, []int{7, 8, 7, 128, 8}, []int{0, 5, 7, 8, 63, 64, 65, 128, 129}},
		{"Clear of none", m.Clear, []int{}, []int{0, 5, 7, 8, 63, 64, 65, 128, 129}},
		{"Clear of one", m.Clear, []int{63}, []int{0, 5, 7, 8, 64, 65, 128, 129}},
		{"Clear of one twice", m.Clear, []int{8, 8}, []int{0, 5, 7, 64, 65, 128, 129}},
		{"Clear of both", m.Clear, []int{8, 129, 63, 0, 100}, []int{5, 7, 64, 65, 128}},
		{"Clear of several twice", m.Clear, []int{5, 6, 5, 65, 6, 65}, []int{7, 64, 128}},
		{"Clear of all", m.Clear, all(130), nil},
		{"Set of all", m.Set, all(130), all(130)},
		{"Set of all again", m.Set, all(130), all(130)},
	} {
		must(t, c.name, c.do(c.numbers...))
		wantSet(t, m, 130, c.behind...)
	}
}

// TestP7_2OutOfRange hands in one number that the bitmap has not, alone, first, in the midst and last: the ones beside it are not set, and not cleared.
func TestP7_2OutOfRange(t *testing.T) {
	for _, n := range []int{1, 10, 63, 64, 65, 130, api.MaxSectors} {
		half := all(n)[n/2:]
		m := with(t, n, half...)
		for _, wrong := range slices.Concat(below, above, []int{n, n + 1, n + 63, n + 64, 1 << 32}) {
			for _, list := range [][]int{
				{wrong}, {wrong, wrong}, {wrong, 0, n - 1}, {0, wrong, n - 1}, {0, n - 1, wrong}, {n - 1, 0, wrong, 0},
				append(all(n), wrong), append([]int{wrong}, all(n)...), slices.Insert(all(n), n/2, wrong),
			} {
				wantCode(t, "Set", m.Set(list...), api.ErrRange)
				if m.Count() != len(half) {
					t.Fatalf("Set of %d out of range of %d changes something", wrong, n)
				}
				wantCode(t, "Clear", m.Clear(list...), api.ErrRange)
				if m.Count() != len(half) {
					t.Fatalf("Clear of %d out of range of %d changes something", wrong, n)
				}
			}
		}
		wantSet(t, m, n, half...)
	}
}

func TestP7_2OutOfRangeOfNone(t *testing.T) {
	m := with(t, 0)
	for _, wrong := range slices.Concat(below, above, []int{0, 1, 63, 64}) {
		wantCode(t, "Set", m.Set(wrong), api.ErrRange)
		wantCode(t, "Clear", m.Clear(wrong), api.ErrRange)
	}
	must(t, "Set of none", m.Set())
	must(t, "Clear of none", m.Clear())
	wantSet(t, m, 0)
	must(t, "Grow", m.Grow(130))
	wantSet(t, m, 130)
}

// TestP7_2BesideTheLength demands that a number becomes the bitmap's by Grow, and not ahead of it.
func TestP7_2BesideTheLength(t *testing.T) {
	m := with(t, 60)
	for n := 60; n < 70; n++ {
		wantCode(t, "Set", m.Set(n), api.ErrRange)
		wantCode(t, "Clear", m.Clear(n), api.ErrRange)
		must(t, "Grow", m.Grow(1))
		must(t, "Set", m.Set(n))
		must(t, "Clear", m.Clear(n))
	}
	wantSet(t, m, 70)
}

func TestP7_3FreeAndNext(t *testing.T) {
	m := with(t, 130, 0, 1, 62, 63, 64, 65, 127, 129)
	for _, c := range []struct {
		from, free, next int
		isFree, isNext   bool
	}{
		{math.MinInt, 2, 0, true, true},
		{-64, 2, 0, true, true},
		{-1, 2, 0, true, true},
		{0, 2, 0, true, true},
		{1, 2, 1, true, true},
		{2, 2, 62, true, true},
		{61, 61, 62, true, true},
		{62, 66, 62, true, true},
		{63, 66, 63, true, true},
		{64, 66, 64, true, true},
		{66, 66, 127, true, true},
		{127, 128, 127, true, true},
		{128, 128, 129, true, true},
		{129, 0, 129, false, true},
		{130, 0, 0, false, false},
		{131, 0, 0, false, false},
		{192, 0, 0, false, false},
		{math.MaxInt - 63, 0, 0, false, false},
		{math.MaxInt, 0, 0, false, false},
	} {
		number, ok := m.Free(c.from)
		wantPlace(t, "Free", number, ok, c.free, c.isFree)
		number, ok = m.Next(c.from)
		wantPlace(t, "Next", number, ok, c.next, c.isNext)
	}
}

func TestP7_3OfNone(t *testing.T) {
	m := with(t, 0)
	for _, from := range slices.Concat(below, above, []int{0, 1, 63, 64}) {
		number, ok := m.Free(from)
		wantPlace(t, "Free", number, ok, 0, false)
		number, ok = m.Next(from)
		wantPlace(t, "Next", number, ok, 0, false)
	}
	wantRuns(t, m)
}

func TestP7_3AllClearAndAllSet(t *testing.T) {
	for _, n := range lengths[1:] {
		none, whole := with(t, n), with(t, n, all(n)...)
		for _, from := range slices.Concat(below, []int{0, n / 2, n - 1}) {
			number, ok := none.Free(from)
			wantPlace(t, "Free of all clear", number, ok, max(from, 0), true)
			number, ok = none.Next(from)
			wantPlace(t, "Next of all clear", number, ok, 0, false)
			number, ok = whole.Free(from)
			wantPlace(t, "Free of all set", number, ok, 0, false)
			number, ok = whole.Next(from)
			wantPlace(t, "Next of all set", number, ok, max(from, 0), true)
		}
		for _, from := range append(above, n, n+1, n|63, (n|63)+1) {
			if from < n {
				continue
			}
			for _, m := range []*bitmap.Bitmap{none, whole} {
				number, ok := m.Free(from)
				wantPlace(t, "Free from the length on", number, ok, 0, false)
				number, ok = m.Next(from)
				wantPlace(t, "Next from the length on", number, ok, 0, false)
			}
		}
		wantRuns(t, none)
		wantRuns(t, whole, bitmap.Run{From: 0, Len: n})
		wantSet(t, none, n)
		wantSet(t, whole, n, all(n)...)
	}
}

// TestP7_3AllButOne demands that the one number which is unlike the others is found, wherever it is.
func TestP7_3AllButOne(t *testing.T) {
	for _, n := range []int{1, 63, 64, 65, 128, 129} {
		for one := range n {
			wantSet(t, with(t, n, one), n, one)
			others := slices.Delete(all(n), one, one+1)
			wantSet(t, with(t, n, others...), n, others...)
		}
	}
}

func TestP7_3Runs(t *testing.T) {
	for _, c := range []struct {
		n    int
		runs []bitmap.Run
	}{
		{0, nil},
		{1, nil},
		{1, []bitmap.Run{{From: 0, Len: 1}}},
		{64, []bitmap.Run{{From: 0, Len: 64}}},
		{65, []bitmap.Run{{From: 0, Len: 65}}},
		{130, nil},
		{130, []bitmap.Run{{From: 0, Len: 130}}},
		{130, []bitmap.Run{{From: 0, Len: 3}}},
		{130, []bitmap.Run{{From: 127, Len: 3}}},
		{130, []bitmap.Run{{From: 0, Len: 1}, {From: 129, Len: 1}}},
		{130, []bitmap.Run{{From: 0, Len: 64}, {From: 65, Len: 65}}},
		{128, []bitmap.Run{{From: 0, Len: 63}, {From: 64, Len: 64}}},
		{128, []bitmap.Run{{From: 63, Len: 1}, {From: 65, Len: 1}}},
		{128, []bitmap.Run{{From: 63, Len: 2}}},
		{300, []bitmap.Run{{From: 5, Len: 290}}},
		{300, []bitmap.Run{{From: 2, Len: 1}, {From: 60, Len: 200}, {From: 299, Len: 1}}},
		{api.MaxSectors, []bitmap.Run{{From: 0, Len: api.MaxSectors}}},
		{api.MaxSectors, []bitmap.Run{{From: 1, Len: api.MaxSectors - 2}}},
		{api.MaxSectors, []bitmap.Run{{From: api.MaxSectors - 1, Len: 1}}},
	} {
		var numbers []int
		for _, run := range c.runs {
			numbers = append(numbers, all(run.From + run.Len)[run.From:]...)
		}
		m := with(t, c.n, numbers...)
		wantRuns(t, m, c.runs...)
		wantSet(t, m, c.n, numbers...)
	}
}

// TestP7_3RunsOfEachOther demands as many stretches as there can be.
func TestP7_3RunsOfEachOther(t *testing.T) {
	for _, first := range []int{0, 1} {
		var numbers []int
		var runs []bitmap.Run
		for i := first; i < api.MaxSectors; i += 2 {
			numbers = append(numbers, i)
			runs = append(runs, bitmap.Run{From: i, Len: 1})
		}
		m := with(t, api.MaxSectors, numbers...)
		wantRuns(t, m, runs...)
		wantSet(t, m, api.MaxSectors, numbers...)
	}
}

// TestP7_3AskedOnly demands that asking changes nothing.
func TestP7_3AskedOnly(t *testing.T) {
	m := with(t, 130, 0, 64, 129)
	for range 3 {
		for from := -2; from < 140; from++ {
			m.Free(from)
			m.Next(from)
			m.Has(from)
		}
		m.Runs()
		m.Count()
		m.Clone()
	}
	wantSet(t, m, 130, 0, 64, 129)
}
