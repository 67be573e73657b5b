package plan_test

import (
	"math"
	"testing"

	"portage/api"
	"portage/plan"
)

// top is the greatest number that may be handed in.
const top = 1 << 40

// noCounts are numbers that may not be handed in, some of which wrap round to small ones as soon as they are multiplied.
var noCounts = []int{-1, -2, -top, top + 1, top + 2, 2 * top, 1 << 60, 1 << 61, 1 << 62, -1 << 61, -1 << 62, math.MinInt32, math.MaxInt - 1, math.MaxInt, math.MinInt, math.MinInt + 1}

// counts are numbers that may be handed in, with both ends.
var counts = []int{0, 1, 2, 3, 10, 4096, math.MaxInt32, math.MaxInt32 + 1, 1 << 32, top/2 + 1, top - 1, top}

// wantNumber demands a number and no error.
func wantNumber(t *testing.T, name string, want int) func(int, error) {
	return func(got int, err error) {
		t.Helper()
		if got != want || err != nil {
			t.Fatalf("%s: %d, %v, not %d", name, got, err, want)
		}
	}
}

// wantEnough demands what Enough tells, and no error.
func wantEnough(t *testing.T, data, pages, volumes, free int, want bool) {
	t.Helper()
	got, err := plan.Enough(data, pages, volumes, free)
	if got != want || err != nil {
		t.Fatalf("Enough(%d, %d, %d, %d): %t, %v, not %t", data, pages, volumes, free, got, err, want)
	}
}

// wantRange demands ErrRange and 0 beside it.
func wantRange(t *testing.T) func(int, error) {
	return func(got int, err error) {
		t.Helper()
		if got != 0 {
			t.Fatalf("%d beside an error", got)
		}
		wantCode(t, err, api.ErrRange)
	}
}

// wantNotEnough demands ErrRange of Enough, and false beside it.
func wantNotEnough(t *testing.T, data, pages, volumes, free int) {
	t.Helper()
	got, err := plan.Enough(data, pages, volumes, free)
	if got {
		t.Fatalf("Enough(%d, %d, %d, %d): true beside an error", data, pages, volumes, free)
	}
	wantCode(t, err, api.ErrRange)
}

func TestP17_2AtTheEnds(t *testing.T) {
	wantNumber(t, "Reserve", 32)(plan.Reserve(0, 0))
	wantNumber(t, "Reserve", 34)(plan.Reserve(1, 0))
	wantNumber(t, "Reserve", 40)(plan.Reserve(0, 1))
	wantNumber(t, "Reserve", 2199023255584)(plan.Reserve(top, 0))
	wantNumber(t, "Reserve", 8796093022240)(plan.Reserve(0, top))
	wantNumber(t, "Reserve", 10995116277792)(plan.Reserve(top, top))

	wantNumber(t, "Bound", 8)(plan.Bound(0, 0, 0))
	wantNumber(t, "Bound", 12)(plan.Bound(1, 0, 0))
	wantNumber(t, "Bound", 20)(plan.Bound(0, 1, 0))
	wantNumber(t, "Bound", 16)(plan.Bound(0, 0, 1))
	wantNumber(t, "Bound", 4398046511112)(plan.Bound(top, 0, 0))
	wantNumber(t, "Bound", 13194139533320)(plan.Bound(0, top, 0))
	wantNumber(t, "Bound", 8796093022216)(plan.Bound(0, 0, top))
	wantNumber(t, "Bound", 26388279066632)(plan.Bound(top, top, top))

	wantNumber(t, "Most", 0)(plan.Most(0, 0))
	wantNumber(t, "Most", 8)(plan.Most(1, 0))
	wantNumber(t, "Most", 24)(plan.Most(0, 1))
	wantNumber(t, "Most", 8796093022208)(plan.Most(top, 0))
	wantNumber(t, "Most", 26388279066624)(plan.Most(0, top))
	wantNumber(t, "Most", 35184372088832)(plan.Most(top, top))
}

// sum adds a number so often, without multiplying.
func sum(total, often, number int) int {
	for range often {
		total += number
	}
	return total
}

func TestP17_2Between(t *testing.T) {
	for _, a := range counts {
		for _, b := range counts {
			wantNumber(t, "Reserve", sum(sum(32, 2, a), 8, b))(plan.Reserve(a, b))
			wantNumber(t, "Most", sum(sum(0, 8, a), 24, b))(plan.Most(a, b))
			for _, c := range counts {
				wantNumber(t, "Bound", sum(sum(sum(8, 4, a), 12, b), 8, c))(plan.Bound(a, b, c))
			}
		}
	}
}

func TestP17_2Enough(t *testing.T) {
	wantEnough(t, 0, 0, 0, 31, false)
	wantEnough(t, 0, 0, 0, 32, true)
	wantEnough(t, 0, 0, 0, 0, false)
	wantEnough(t, 0, 0, 0, top, true)
	wantEnough(t, top, 0, 0, top, false)
	wantEnough(t, 0, top, 0, top, false)
	wantEnough(t, 0, 0, top, top, false)
	wantEnough(t, top, top, top, top, false)
	wantEnough(t, top-32, 0, 0, top, true)
	wantEnough(t, top-31, 0, 0, top, false)
	wantEnough(t, 0, top/2-16, 0, top, true)
	wantEnough(t, 1, top/2-16, 0, top, false)
	wantEnough(t, 0, 0, top/8-4, top, true)
	wantEnough(t, 1, 0, top/8-4, top, false)
	for _, data := range counts {
		for _, pages := range counts {
			for _, volumes := range counts {
				wanted := sum(sum(data+32, 2, pages), 8, volumes)
				for _, free := range []int{wanted - 1, wanted, wanted + 1} {
					if free <= top {
						wantEnough(t, data, pages, volumes, free, free >= wanted)
					}
				}
				for _, free := range counts {
					wantEnough(t, data, pages, volumes, free, free >= wanted)
				}
			}
		}
	}
}

func TestP17_2Range(t *testing.T) {
	for _, wrong := range noCounts {
		for _, other := range append([]int{0, 1, 100, top}, noCounts...) {
			wantRange(t)(plan.Reserve(wrong, other))
			wantRange(t)(plan.Reserve(other, wrong))
			wantRange(t)(plan.Most(wrong, other))
			wantRange(t)(plan.Most(other, wrong))
			wantRange(t)(plan.Bound(wrong, other, other))
			wantRange(t)(plan.Bound(other, wrong, other))
			wantRange(t)(plan.Bound(other, other, wrong))
			wantNotEnough(t, wrong, other, other, other)
			wantNotEnough(t, other, wrong, other, other)
			wantNotEnough(t, other, other, wrong, other)
			wantNotEnough(t, other, other, other, wrong)
		}
		// With as much free as may be, so that there would be enough if the wrong number were taken for a small one.
		wantNotEnough(t, wrong, 0, 0, top)
		wantNotEnough(t, 0, wrong, 0, top)
		wantNotEnough(t, 0, 0, wrong, top)
	}
}
