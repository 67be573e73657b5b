package bitmap_test

import (
	"slices"
	"testing"

	"portage/api"
	"portage/bitmap"
)

// junk is what stands in spare room, and what lists are written over with.
const junk = -7

// overwrite lays x over all of a list, its spare room too.
func overwrite[T any](list []T, x T) {
	for i := range list[:cap(list)] {
		list[:cap(list)][i] = x
	}
}

func TestP7_4CloneIsAlike(t *testing.T) {
	for _, n := range lengths {
		for _, numbers := range [][]int{nil, all(n), all(n)[n/2:], all(n)[:n/2]} {
			m := with(t, n, numbers...)
			c := m.Clone()
			if c == m {
				t.Fatal("Clone tells the bitmap itself")
			}
			wantSet(t, c, n, numbers...)
			wantSet(t, m, n, numbers...)
			wantSet(t, c.Clone(), n, numbers...)
		}
	}
}

// changes change a bitmap of n, whose numbers in the upper half are set, and tell what is set behind it.
var changes = []struct {
	name string
	do   func(m *bitmap.Bitmap, n int) error
	set  func(n int) (length int, numbers []int)
}{
	{"Set", func(m *bitmap.Bitmap, n int) error { return m.Set(all(n)[:n/2]...) }, func(n int) (int, []int) { return n, all(n) }},
	{"Clear", func(m *bitmap.Bitmap, n int) error { return m.Clear(all(n)[n/2:]...) }, func(n int) (int, []int) { return n, nil }},
	{"Grow", func(m *bitmap.Bitmap, n int) error { return m.Grow(1) }, func(n int) (int, []int) { return n + 1, all(n)[n/2:] }},
	{"Grow by many", func(m *bitmap.Bitmap, n int) error { return m.Grow(200) }, func(n int) (int, []int) { return n + 200, all(n)[n/2:] }},
	{"Grow and Set", func(m *bitmap.Bitmap, n int) error {
		if err := m.Grow(200); err != nil {
			return err
		}
		return m.Set(n, n+199)
	}, func(n int) (int, []int) { return n + 200, append(all(n)[n/2:], n, n+199) }},
}

func TestP7_4CloneIsAnotherOne(t *testing.T) {
	for _, n := range []int{0, 1, 10, 63, 64, 65, 128, 130} {
		for _, c := range changes {
			length, numbers := c.set(n)

			m := with(t, n, all(n)[n/2:]...)
			clone := m.Clone()
			must(t, c.name, c.do(clone, n))
			wantSet(t, m, n, all(n)[n/2:]...)
			wantSet(t, clone, length, numbers...)

			m = with(t, n, all(n)[n/2:]...)
			clone = m.Clone()
			must(t, c.name, c.do(m, n))
			wantSet(t, clone, n, all(n)[n/2:]...)
			wantSet(t, m, length, numbers...)
		}
	}
}

// TestP7_4ClonesThatGrowApart lets a bitmap and its clones grow and be set one after the other: they share no spare room either.
func TestP7_4ClonesThatGrowApart(t *testing.T) {
	for _, n := range []int{0, 1, 64, 65, 200, 320} {
		m := with(t, n)
		must(t, "Grow", m.Grow(64))
		family := []*bitmap.Bitmap{m, m.Clone(), m.Clone()}
		family = append(family, family[1].Clone())
		for _, o := range family {
			must(t, "Grow", o.Grow(130))
		}
		for k, o := range family {
			must(t, "Set", o.Set(n+64+k, n+193-k))
		}
		for k, o := range family {
			wantSet(t, o, n+194, n+64+k, n+193-k)
		}
	}
}

// TestP7_4RefusedOfAClone demands that what is refused changes neither.
func TestP7_4RefusedOfAClone(t *testing.T) {
	m := with(t, 70, 1, 69)
	c := m.Clone()
	wantCode(t, "Set", c.Set(0, 70), api.ErrRange)
	wantCode(t, "Clear", c.Clear(1, -1), api.ErrRange)
	wantCode(t, "Grow", c.Grow(api.MaxSectors), api.ErrRange)
	wantSet(t, m, 70, 1, 69)
	wantSet(t, c, 70, 1, 69)
}

func TestP7_4NumbersHandedIn(t *testing.T) {
	for _, numbers := range [][]int{nil, {}, {5}, {69, 3, 3, 0}, {69, 70, 3}, {-1}, {3, 64, -9}, all(70)} {
		whole := append(slices.Clone(numbers), junk, junk, junk)
		before := slices.Clone(whole)
		m := with(t, 70, 3, 4)
		// What is spread is the list itself, its spare room too.
		handed := whole[:len(numbers)]
		m.Clear(handed...)
		m.Set(handed...)
		m.Runs()
		if !slices.Equal(whole, before) {
			t.Errorf("what is handed in is changed: %v, not %v", whole, before)
		}
		told := m.Clone()
		runs := m.Runs()
		overwrite(whole, 7)
		if !slices.Equal(m.Runs(), runs) || !slices.Equal(told.Runs(), runs) || m.Count() != told.Count() {
			t.Errorf("what was handed in is kept: %v, not %v", m.Runs(), runs)
		}
	}
}

func TestP7_4RunsAreNew(t *testing.T) {
	m := with(t, 200, 1, 2, 5, 60, 61, 62, 63, 64, 65, 199)
	want := []bitmap.Run{{From: 1, Len: 2}, {From: 5, Len: 1}, {From: 60, Len: 6}, {From: 199, Len: 1}}
	first, second := m.Runs(), m.Runs()
	c := m.Clone()
	others := c.Runs()
	overwrite(first, bitmap.Run{From: junk, Len: junk})
	for _, runs := range [][]bitmap.Run{second, others, m.Runs(), c.Runs()} {
		if !slices.Equal(runs, want) {
			t.Errorf("Runs: %v, not %v", runs, want)
		}
	}
	wantSet(t, m, 200, 1, 2, 5, 60, 61, 62, 63, 64, 65, 199)
	wantSet(t, c, 200, 1, 2, 5, 60, 61, 62, 63, 64, 65, 199)
}

// TestP7_4RunsStay demands that what was told stays as it was when the bitmap changes.
func TestP7_4RunsStay(t *testing.T) {
	m := with(t, 200, 1, 2, 5)
	runs := m.Runs()
	must(t, "Set", m.Set(3, 4, 100))
	must(t, "Clear", m.Clear(1))
	must(t, "Grow", m.Grow(50))
	m.Runs()
	if want := []bitmap.Run{{From: 1, Len: 2}, {From: 5, Len: 1}}; !slices.Equal(runs, want) {
		t.Errorf("Runs told %v, and they are %v now", want, runs)
	}
	wantSet(t, m, 250, 2, 3, 4, 5, 100)
}
