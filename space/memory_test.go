package space_test

import (
	"slices"
	"testing"

	"portage/api"
	"portage/roster"
	"portage/space"
)

// spare is what stands in spare room, and what rosters are written over with.
var spare = roster.Entry{State: -7, Size: -7}

// roomy is a roster with spare room behind it, and all of that room.
func roomy(list ...roster.Entry) (roster.Roster, []roster.Entry) {
	whole := append(slices.Clone(list), slices.Repeat([]roster.Entry{spare}, 9)...)
	return roster.Roster{List: whole[:len(list)]}, whole
}

// overwrite lays x over all of a list, its spare room too.
func overwrite[T any](list []T, x T) {
	for i := range list[:cap(list)] {
		list[:cap(list)][i] = x
	}
}

func TestP8_6HandedInIsNotChanged(t *testing.T) {
	lists := append(notRight(), nil, []roster.Entry{active(10), draining(8), removed(9), active(7)}, []roster.Entry{active(20), active(20), removed(20), draining(20), active(20)}, []roster.Entry{removed(10)})
	for _, list := range lists {
		r, whole := roomy(list...)
		before := slices.Clone(whole)
		space.New(r)
		s, _ := kinds(t)
		s.Turn(r)
		s.Begin()
		s.Turn(r)
		s.Take()
		s.Back()
		if !slices.Equal(whole, before) || len(r.List) != len(list) {
			t.Errorf("what is handed in is changed: %v, not %v", whole, before)
		}
	}
}

// TestP8_6HandedInIsNotKept writes over the rosters that were handed in, behind the calls.
func TestP8_6HandedInIsNotKept(t *testing.T) {
	first := []roster.Entry{active(10), active(8)}
	second := []roster.Entry{active(12), draining(8), active(5)}
	r, whole := roomy(first...)
	s, err := space.New(r)
	must(t, "New", err)
	m := modelOf(first...)
	overwrite(whole, spare)
	wantAll(t, s, m)
	play(t, s, m, call{name: "Take"}, call{name: "Mark", addr: 4099}, call{name: "Begin"})

	r, whole = roomy(second...)
	must(t, "Turn", s.Turn(r))
	m.turn(second)
	overwrite(whole, spare)
	wantTold(t, s, m)
	play(t, s, m, call{name: "Take"}, call{name: "Take"}, call{name: "Mark", addr: 8196}, call{name: "Back"})
	wantAll(t, s, m)

	r, whole = roomy(second...)
	must(t, "Turn", s.Turn(r))
	m.turn(second)
	play(t, s, m, call{name: "Begin"})
	overwrite(whole, spare)
	play(t, s, m, call{name: "Take"}, call{name: "Back"})
	wantAll(t, s, m)
}

// TestP8_6RefusedIsNotKept writes over rosters that were refused.
func TestP8_6RefusedIsNotKept(t *testing.T) {
	s, m := kinds(t)
	for _, list := range [][]roster.Entry{nil, {active(10)}, {{}}, {removed(10), removed(8), removed(9), removed(7)}} {
		r, whole := roomy(list...)
		if s.Turn(r) == nil {
			t.Fatalf("Turn(%v) is not refused", list)
		}
		overwrite(whole, active(100))
		wantAll(t, s, m)
	}
}

func TestP8_6RosterIsNew(t *testing.T) {
	s, m := kinds(t)
	first, second := s.Roster(), s.Roster()
	play(t, s, m, call{name: "Begin"})
	third := s.Roster()
	overwrite(first.List, spare)
	overwrite(third.List, spare)
	if !slices.Equal(second.List, m.list) {
		t.Errorf("Roster told %v, and it is %v now", m.list, second.List)
	}
	wantTold(t, s, m)
	play(t, s, m, call{name: "Back"})
	wantAll(t, s, m)
	// What is laid in the spare room of what was told is in no later roster.
	grown := append(s.Roster().List, active(33))
	play(t, s, m, call{name: "Turn", list: append(slices.Clone(m.list), active(5))})
	if grown[len(grown)-1] != active(33) {
		t.Errorf("what was told shares its spare room: %v", grown)
	}
	wantAll(t, s, m)
}

// TestP8_6RosterStays demands that what was told stays as it was when the space turns.
func TestP8_6RosterStays(t *testing.T) {
	s, m := kinds(t)
	told, want := s.Roster(), slices.Clone(m.list)
	must(t, "Turn", s.Turn(with(draining(20), active(20), removed(20), draining(20))))
	if !slices.Equal(told.List, want) {
		t.Errorf("Roster told %v, and it is %v now", want, told.List)
	}
}

func TestP8_6OnIsNew(t *testing.T) {
	s, m := kinds(t)
	for device := range m.list {
		first, second := s.On(device), s.On(device)
		want := slices.Clone(second)
		overwrite(first, 9)
		if !slices.Equal(second, want) {
			t.Errorf("On(%d) told %v, and it is %v now", device, want, second)
		}
		wantAll(t, s, m)
	}
}

// TestP8_6OnStays demands that what was told stays as it was when the space changes.
func TestP8_6OnStays(t *testing.T) {
	s, _ := kinds(t)
	told := s.On(0)
	want := slices.Clone(told)
	must(t, "Unmark", s.Unmark(2))
	must(t, "Give", s.Give(freshFirst))
	must(t, "Mark", s.Mark(9))
	s.Settle()
	s.On(0)
	if !slices.Equal(told, want) {
		t.Errorf("On told %v, and it is %v now", want, told)
	}
}

// TestP8_6SpacesApart demands that two spaces of one roster have nothing in common.
func TestP8_6SpacesApart(t *testing.T) {
	r := with(active(10), active(api.MaxSectors))
	one, err := space.New(r)
	must(t, "New", err)
	other, err := space.New(r)
	must(t, "New", err)
	wantTake(t, one, 4098, 4099)
	must(t, "Mark", one.Mark(2))
	must(t, "Begin", one.Begin())
	wantCode(t, "Commit", other.Commit(), api.ErrBusy)
	wantAll(t, other, modelOf(r.List...))
	wantTake(t, other, 4098)
	must(t, "Back", one.Back())
	if one.Used(1) != 2 || other.Used(1) != 1 {
		t.Errorf("Used %d, %d, not 2, 1", one.Used(1), other.Used(1))
	}
}
