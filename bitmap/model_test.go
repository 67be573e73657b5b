package bitmap_test

import (
	"math"
	"slices"
	"testing"

	"portage/api"
	"portage/bitmap"
)

// below and above are numbers that no bitmap has.
var (
	below = []int{math.MinInt, math.MinInt + 1, math.MinInt32, -api.MaxSectors, -65, -64, -63, -2, -1}
	above = []int{api.MaxSectors, api.MaxSectors + 1, math.MaxInt32, math.MaxInt - 64, math.MaxInt - 63, math.MaxInt - 1, math.MaxInt}
)

// place is what Free and Next tell.
type place struct {
	number int
	ok     bool
}

// least is, for each number and for the length, the least one from there on that is as asked, found by going down.
func least(marks []bool, asked bool) []place {
	places := make([]place, len(marks)+1)
	for i := len(marks) - 1; i >= 0; i-- {
		places[i] = places[i+1]
		if marks[i] == asked {
			places[i] = place{i, true}
		}
	}
	return places
}

// stretches are the runs of what is set: one begins where the number ahead is not set, and goes on as long as they are.
func stretches(marks []bool) []bitmap.Run {
	var runs []bitmap.Run
	for i, set := range marks {
		switch {
		case set && (i == 0 || !marks[i-1]):
			runs = append(runs, bitmap.Run{From: i, Len: 1})
		case set:
			runs[len(runs)-1].Len++
		}
	}
	return runs
}

// wantHas demands Len, Count and Has as the marks say, for all numbers of a bitmap and for those outside.
func wantHas(t *testing.T, m *bitmap.Bitmap, marks []bool) {
	t.Helper()
	count := 0
	for i, set := range marks {
		if set {
			count++
		}
		if m.Has(i) != set {
			t.Fatalf("Has(%d): %t", i, m.Has(i))
		}
	}
	if m.Len() != len(marks) || m.Count() != count {
		t.Fatalf("Len %d, Count %d, not %d, %d", m.Len(), m.Count(), len(marks), count)
	}
	outside := slices.Concat(below, above)
	for more := range 130 {
		outside = append(outside, len(marks)+more)
	}
	for _, i := range outside {
		if m.Has(i) {
			t.Fatalf("Has(%d) of a bitmap of %d", i, len(marks))
		}
	}
}

// wantFrom demands what Free or Next tell, from all numbers of a bitmap and from those outside.
func wantFrom(t *testing.T, name string, find func(from int) (int, bool), places []place) {
	t.Helper()
	want := func(from int, p place) {
		t.Helper()
		if number, ok := find(from); number != p.number || ok != p.ok {
			t.Fatalf("%s(%d): %d, %t, not %d, %t", name, from, number, ok, p.number, p.ok)
		}
	}
	for from, p := range places {
		want(from, p)
	}
	for _, from := range below {
		want(from, places[0])
	}
	for more := range 130 {
		want(len(places)+more, place{})
	}
	for _, from := range above {
		want(from, place{})
	}
}

// wantMarks demands that all that a bitmap tells is as the chapter's words put it, if just what is marked is set.
func wantMarks(t *testing.T, m *bitmap.Bitmap, marks []bool) {
	t.Helper()
	wantHas(t, m, marks)
	wantFrom(t, "Free", m.Free, least(marks, false))
	wantFrom(t, "Next", m.Next, least(marks, true))
	if got, want := m.Runs(), stretches(marks); !slices.Equal(got, want) {
		t.Fatalf("Runs: %v, not %v", got, want)
	}
}

// wantSet demands that a bitmap is of that length, and that just these numbers are set.
func wantSet(t *testing.T, m *bitmap.Bitmap, n int, numbers ...int) {
	t.Helper()
	wantMarks(t, m, marked(n, numbers...))
}

// marked are n marks, with these numbers set.
func marked(n int, numbers ...int) []bool {
	marks := make([]bool, n)
	for _, i := range numbers {
		marks[i] = true
	}
	return marks
}

// TestP7Small holds all bitmaps of few numbers against the chapter's words.
func TestP7Small(t *testing.T) {
	for n := range 11 {
		for pattern := range 1 << n {
			var numbers []int
			for i := range n {
				if pattern&(1<<i) != 0 {
					numbers = append(numbers, i)
				}
			}
			wantSet(t, with(t, n, numbers...), n, numbers...)
		}
	}
}

// TestP7AcrossWords holds each pattern of few numbers against the chapter's words, at places where the words of bits meet, beside what is set and beside what is clear.
func TestP7AcrossWords(t *testing.T) {
	for _, n := range []int{67, 68, 128, 130} {
		for pattern := range 1 << 6 {
			for _, around := range []bool{false, true} {
				marks := slices.Repeat([]bool{around}, n)
				for i := range 6 {
					marks[61+i] = pattern&(1<<i) != 0
				}
				wantMarks(t, like(t, marks), marks)
			}
		}
	}
}

// like is a bitmap in which just what is marked is set.
func like(t *testing.T, marks []bool) *bitmap.Bitmap {
	t.Helper()
	var numbers []int
	for i, set := range marks {
		if set {
			numbers = append(numbers, i)
		}
	}
	return with(t, len(marks), numbers...)
}

// numbers tells numbers in an order that is always the same, and looks like none.
type numbers uint64

func (n *numbers) below(limit int) int {
	*n = *n*6364136223846793005 + 1442695040888963407
	return int(uint64(*n)>>33) % limit
}

// some are up to limit numbers for a bitmap of that length, often those of a stretch, now and then one that it has not.
func (n *numbers) some(length, limit int) []int {
	list := make([]int, n.below(limit+1))
	from, apart := n.below(length+1), n.below(3)
	for k := range list {
		list[k] = n.below(length + 1)
		if apart > 0 {
			list[k] = from + k
		}
		if n.below(5) > 0 && length > 0 {
			list[k] %= length
		}
	}
	if len(list) > 0 && n.below(20) == 0 {
		list[n.below(len(list))] = -1 - n.below(70)
	}
	return list
}

// act does one thing to a bitmap and to the marks alike, and tells the marks behind it.
func act(t *testing.T, next *numbers, m *bitmap.Bitmap, marks []bool) []bool {
	t.Helper()
	if next.below(10) == 0 {
		more := next.below(90) - 3
		err := m.Grow(more)
		if more < 0 || len(marks)+more > api.MaxSectors {
			wantCode(t, "Grow", err, api.ErrRange)
			return marks
		}
		must(t, "Grow", err)
		return append(marks, make([]bool, more)...)
	}
	list, set := next.some(len(marks), 80), next.below(5) < 3
	do := m.Clear
	if set {
		do = m.Set
	}
	err := do(list...)
	if slices.ContainsFunc(list, func(i int) bool { return i < 0 || i >= len(marks) }) {
		wantCode(t, "Set or Clear", err, api.ErrRange)
		return marks
	}
	must(t, "Set or Clear", err)
	for _, i := range list {
		marks[i] = set
	}
	return marks
}

// TestP7Long lets bitmaps go through many calls, clones of them too, and holds them against the chapter's words behind each.
func TestP7Long(t *testing.T) {
	for run := range 21 {
		next := numbers(run)
		n := []int{0, 1, 63, 64, 65, 200, api.MaxSectors - 100}[run%7]
		m, marks := with(t, n), make([]bool, n)
		other, others := m.Clone(), slices.Clone(marks)
		for step := range 120 {
			switch next.below(12) {
			case 0:
				other, others = m.Clone(), slices.Clone(marks)
			case 1:
				m, marks, other, others = other, others, m, marks
			default:
				marks = act(t, &next, m, marks)
			}
			wantMarks(t, m, marks)
			if step%10 == 9 {
				wantMarks(t, other, others)
			}
		}
	}
}
