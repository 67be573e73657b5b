package space_test

import (
	"errors"
	"math"
	"slices"
	"testing"

	"portage/api"
	"portage/fault"
	"portage/roster"
	"portage/space"
)

// wantCode demands that err is this bare code.
func wantCode(t *testing.T, what string, err error, code api.Code) {
	t.Helper()
	var f *fault.Fault
	if err != error(code) || !errors.Is(err, code) || errors.As(err, &f) {
		t.Fatalf("%s: %v, not %v", what, err, code)
	}
}

// must demands that a call is not refused.
func must(t *testing.T, what string, err error) {
	t.Helper()
	if err != nil {
		t.Fatalf("%s: %v", what, err)
	}
}

func active(size int) roster.Entry   { return roster.Entry{State: api.Active, Size: size} }
func draining(size int) roster.Entry { return roster.Entry{State: api.Draining, Size: size} }
func removed(size int) roster.Entry  { return roster.Entry{State: api.Removed, Size: size} }

// with is the roster of these entries, in memory of its own.
func with(list ...roster.Entry) roster.Roster { return roster.Roster{List: slices.Clone(list)} }

// made is a space of these devices.
func made(t *testing.T, list ...roster.Entry) *space.Space {
	t.Helper()
	s, err := space.New(with(list...))
	must(t, "New", err)
	return s
}

// wantTake demands that Take tells these addresses, one behind the other.
func wantTake(t *testing.T, s *space.Space, addrs ...int) {
	t.Helper()
	for _, want := range addrs {
		if addr, err := s.Take(); addr != want || err != nil {
			t.Fatalf("Take: %d, %v, not %d", addr, err, want)
		}
	}
}

// wantFull demands that there is nothing that can be taken.
func wantFull(t *testing.T, s *space.Space) {
	t.Helper()
	addr, err := s.Take()
	wantCode(t, "Take", err, api.ErrFull)
	if addr != 0 {
		t.Fatalf("Take tells %d beside an error", addr)
	}
}

// kinds is a space of {Active 10, Draining 8, Removed 9, Active 7}, in which of each member one is marked (2), one is given back (3), and of those that are Active some are fresh (from 4 on); and the model of it.
func kinds(t *testing.T) (*space.Space, *model) {
	t.Helper()
	list := []roster.Entry{active(10), active(8), removed(9), active(7)}
	s, m := made(t, list...), modelOf(list...)
	for _, device := range []int{0, 1, 3} {
		play(t, s, m, call{name: "Mark", addr: space.Addr(device, 2)}, call{name: "Mark", addr: space.Addr(device, 3)}, call{name: "Give", addr: space.Addr(device, 3)})
	}
	list[1] = draining(8)
	play(t, s, m, call{name: "Turn", list: list})
	for range 5 {
		play(t, s, m, call{name: "Take"})
	}
	return s, m
}

// Two of the addresses that are fresh in kinds: four are taken while the first device has the most free, or as much as the last one, then one of that.
const (
	freshFirst = 4
	freshLast  = 3*api.MaxSectors + 4
)

func TestP8Example(t *testing.T) {
	s := made(t, active(10), active(12))
	wantTake(t, s, 4098, 4099, 2)
	must(t, "Give", s.Give(4098))
	if s.Used(1) != 1 || s.Free() != 16 {
		t.Fatalf("Give(4098): Used %d, Free %d: it is not free at once", s.Used(1), s.Free())
	}
	if n := s.Settle(); n != 0 {
		t.Fatalf("Settle: %d, not 0", n)
	}
	must(t, "Give", s.Give(2))
	if s.Taken(2) || s.Used(0) != 1 || s.Free() != 16 {
		t.Fatalf("Give(2): Used %d, Free %d: it is not given back", s.Used(0), s.Free())
	}
	if n := s.Settle(); n != 1 || s.Used(0) != 0 || s.Free() != 17 {
		t.Fatalf("Settle: %d, Used %d, Free %d", n, s.Used(0), s.Free())
	}
}

func TestP8_1Addr(t *testing.T) {
	for _, c := range []struct{ device, sector, addr int }{
		{0, 0, 0},
		{0, 1, 1},
		{0, 4095, 4095},
		{1, 0, 4096},
		{1, 2, 4098},
		{3, 17, 12305},
		{7, 0, 28672},
		{7, 4095, 32767},
		{0, -1, -1},
		{1, -1, -1},
		{7, -1, -1},
		{-1, 0, -1},
		{-1, 4096, -1},
		{-1, 4095, -1},
		{-1, -1, -1},
		{0, 4096, -1},
		{6, 4096, -1},
		{7, 4096, -1},
		{8, 0, -1},
		{8, -4096, -1},
		{8, -1, -1},
		{9, 4095, -1},
		{math.MinInt, 0, -1},
		{math.MaxInt, 0, -1},
		{0, math.MinInt, -1},
		{0, math.MaxInt, -1},
		{7, math.MinInt, -1},
		{7, math.MaxInt, -1},
		{math.MinInt, math.MaxInt, -1},
		{math.MaxInt, math.MinInt, -1},
		{math.MinInt, math.MinInt, -1},
		{math.MaxInt, math.MaxInt, -1},
		{1 << 52, 5, -1},
		{1 << 32, 5, -1},
		{1, 1 << 32, -1},
		{-1 << 52, 5, -1},
	} {
		if addr := space.Addr(c.device, c.sector); addr != c.addr {
			t.Errorf("Addr(%d, %d): %d, not %d", c.device, c.sector, addr, c.addr)
		}
	}
}

func TestP8_1At(t *testing.T) {
	for _, c := range []struct{ addr, device, sector int }{
		{0, 0, 0},
		{1, 0, 1},
		{4098, 1, 2},
		{12305, 3, 17},
		{-1, -1, -1},
		{-2, -1, -1},
		{-4095, -1, -1},
		{-4096, -1, -1},
		{-4097, -1, -1},
		{32768, -1, -1},
		{32769, -1, -1},
		{36864, -1, -1},
		{1 << 32, -1, -1},
		{1<<32 + 5, -1, -1},
		{math.MinInt32, -1, -1},
		{math.MinInt, -1, -1},
		{math.MinInt + 1, -1, -1},
		{math.MaxInt - 1, -1, -1},
		{math.MaxInt, -1, -1},
	} {
		if device, sector := space.At(c.addr); device != c.device || sector != c.sector {
			t.Errorf("At(%d): %d, %d, not %d, %d", c.addr, device, sector, c.device, c.sector)
		}
	}
	for device := range api.MaxDevices {
		for _, sector := range []int{0, 4095} {
			if d, k := space.At(device*4096 + sector); d != device || k != sector {
				t.Errorf("At(%d): %d, %d, not %d, %d", device*4096+sector, d, k, device, sector)
			}
		}
	}
}

func TestP8_1BothWaysRound(t *testing.T) {
	addr := 0
	for device := range api.MaxDevices {
		for sector := range api.MaxSectors {
			if got := space.Addr(device, sector); got != addr {
				t.Fatalf("Addr(%d, %d): %d, not %d", device, sector, got, addr)
			}
			if d, k := space.At(addr); d != device || k != sector {
				t.Fatalf("At(%d): %d, %d, not %d, %d", addr, d, k, device, sector)
			}
			addr++
		}
	}
}

func TestP8_1New(t *testing.T) {
	for _, c := range []struct {
		list []roster.Entry
		free int
	}{
		{nil, 0},
		{[]roster.Entry{active(3)}, 1},
		{[]roster.Entry{draining(3)}, 0},
		{[]roster.Entry{removed(0)}, 0},
		{[]roster.Entry{removed(2), removed(3), removed(api.MaxSectors)}, 0},
		{[]roster.Entry{active(api.MaxSectors)}, 4094},
		{[]roster.Entry{active(10), active(12)}, 18},
		{[]roster.Entry{draining(10), active(12), removed(20)}, 10},
		{[]roster.Entry{removed(20), draining(30), draining(40)}, 0},
		{slices.Repeat([]roster.Entry{active(3)}, api.MaxDevices), 8},
		{slices.Repeat([]roster.Entry{active(api.MaxSectors)}, api.MaxDevices), 8 * 4094},
	} {
		s, err := space.New(with(c.list...))
		must(t, "New", err)
		if s.Free() != c.free {
			t.Errorf("New(%v): Free %d, not %d", c.list, s.Free(), c.free)
		}
		wantAll(t, s, modelOf(c.list...))
		wantCode(t, "Commit of a new one", s.Commit(), api.ErrBusy)
		wantCode(t, "Back of a new one", s.Back(), api.ErrBusy)
		if n := s.Settle(); n != 0 {
			t.Errorf("Settle of a new one: %d", n)
		}
	}
}

// notRight are lists of entries that make no right roster.
func notRight() [][]roster.Entry {
	return [][]roster.Entry{
		{{}},
		{{State: api.Absent, Size: 10}},
		{{State: 4, Size: 10}},
		{{State: -1, Size: 10}},
		{active(2)},
		{active(0)},
		{active(-1)},
		{draining(2)},
		{removed(-1)},
		{active(api.MaxSectors + 1)},
		{removed(api.MaxSectors + 1)},
		{active(math.MaxInt)},
		{active(math.MinInt)},
		{active(10), active(2)},
		{active(10), active(12), {}},
		slices.Repeat([]roster.Entry{active(10)}, api.MaxDevices+1),
		slices.Repeat([]roster.Entry{removed(0)}, 300),
	}
}

func TestP8_1NewRefused(t *testing.T) {
	for _, list := range notRight() {
		s, err := space.New(with(list...))
		wantCode(t, "New", err, api.ErrForm)
		if s != nil {
			t.Errorf("New(%v) tells a space beside an error", list)
		}
	}
}

func TestP8_1Roster(t *testing.T) {
	list := []roster.Entry{active(10), draining(12), removed(0)}
	s := made(t, list...)
	wantTake(t, s, 2)
	if got := s.Roster().List; !slices.Equal(got, list) {
		t.Errorf("Roster: %v, not %v", got, list)
	}
	if got := made(t).Roster().List; len(got) != 0 {
		t.Errorf("Roster of no device: %v", got)
	}
}

func TestP8_2Turn(t *testing.T) {
	s, m := kinds(t)
	for _, list := range [][]roster.Entry{
		{active(10), draining(8), removed(9), active(7)},
		{active(11), draining(8), removed(9), active(7)},
		{active(11), draining(20), removed(9), active(7)},
		{active(11), draining(20), removed(90), active(7)},
		{active(70), active(70), removed(90), active(70)},
		{draining(70), draining(70), removed(90), draining(71)},
		{draining(70), draining(70), removed(90), draining(71), active(3)},
		{draining(70), active(70), removed(90), active(71), draining(4), removed(0), active(6)},
		{active(70), active(71), removed(90), active(71), removed(4), removed(1), active(6), draining(9)},
		{active(api.MaxSectors), active(api.MaxSectors), removed(api.MaxSectors), active(api.MaxSectors), removed(api.MaxSectors), removed(api.MaxSectors), active(api.MaxSectors), removed(api.MaxSectors)},
	} {
		must(t, "Turn", s.Turn(with(list...)))
		if code := m.turn(list); code != 0 {
			t.Fatalf("the model refuses %v: %v", list, code)
		}
		wantAll(t, s, m)
	}
}

// TestP8_2WhatIsMore demands that sectors and devices that come are free, and can be taken, marked and given.
func TestP8_2WhatIsMore(t *testing.T) {
	s := made(t, active(4))
	wantTake(t, s, 2, 3)
	wantFull(t, s)
	wantCode(t, "Mark at the Size", s.Mark(4), api.ErrRange)
	must(t, "Turn", s.Turn(with(active(6))))
	if s.Free() != 2 || s.Used(0) != 2 || s.Taken(4) || s.Taken(5) {
		t.Fatalf("Turn to a greater one: Free %d, Used %d", s.Free(), s.Used(0))
	}
	must(t, "Mark", s.Mark(5))
	wantTake(t, s, 4)
	wantFull(t, s)
	must(t, "Turn", s.Turn(with(active(6), active(5), draining(9))))
	if s.Free() != 3 || s.Used(1) != 0 || s.Used(2) != 0 {
		t.Fatalf("Turn to more: Free %d, Used %d, %d", s.Free(), s.Used(1), s.Used(2))
	}
	wantTake(t, s, 4098, 4099, 4100)
	wantFull(t, s)
	must(t, "Mark", s.Mark(space.Addr(2, 8)))
	wantCode(t, "Mark at the Size", s.Mark(space.Addr(2, 9)), api.ErrRange)
}

// TestP8_2Fresh demands that what is fresh stays so, and what is not fresh, too.
func TestP8_2Fresh(t *testing.T) {
	s := made(t, active(10))
	wantTake(t, s, 2)
	must(t, "Mark", s.Mark(3))
	must(t, "Turn", s.Turn(with(draining(20), active(10))))
	wantCode(t, "Unmark of a fresh one", s.Unmark(2), api.ErrTaken)
	must(t, "Unmark", s.Unmark(3))
	must(t, "Give", s.Give(2))
	if s.Used(0) != 0 {
		t.Fatalf("Used: %d", s.Used(0))
	}
}

func TestP8_2NotRight(t *testing.T) {
	s, m := kinds(t)
	for _, list := range notRight() {
		wantCode(t, "Turn", s.Turn(with(list...)), api.ErrForm)
		wantAll(t, s, m)
	}
	// Each of these would be refused with ErrState, too.
	for _, list := range [][]roster.Entry{
		{{}},
		{active(10), draining(8), removed(9), active(2)},
		{removed(10), draining(8), active(2), active(7)},
		{active(9), draining(8), removed(9), {State: 4, Size: 7}},
		{active(10), draining(8), {State: api.Absent, Size: 9}, active(7)},
	} {
		wantCode(t, "Turn", s.Turn(with(list...)), api.ErrForm)
		wantAll(t, s, m)
	}
}

func TestP8_2Refused(t *testing.T) {
	s, m := kinds(t)
	for _, list := range [][]roster.Entry{
		nil,
		{active(10)},
		{active(10), draining(8), removed(9)},
		{active(9), draining(8), removed(9), active(7)},
		{active(10), draining(7), removed(9), active(7)},
		{active(10), draining(8), removed(8), active(7)},
		{active(10), draining(8), removed(0), active(7)},
		{active(10), draining(8), removed(9), active(6)},
		{active(20), active(20), removed(20), active(6), active(10)},
		{removed(10), draining(8), removed(9), active(7)},
		{active(10), removed(8), removed(9), active(7)},
		{active(10), draining(8), removed(9), removed(7)},
		{active(10), removed(20), removed(9), active(7)},
		{active(10), draining(8), active(9), active(7)},
		{active(10), draining(8), draining(9), active(7)},
		{active(10), draining(8), active(90), active(7)},
		{active(20), active(20), active(20), active(20), active(20)},
	} {
		wantCode(t, "Turn", s.Turn(with(list...)), api.ErrState)
		wantAll(t, s, m)
	}
}

// TestP8_2Leaving demands that a member may leave as soon as nothing of it is taken or given back, and not ahead of that; and that it does not come back.
func TestP8_2Leaving(t *testing.T) {
	gone := with(removed(10), active(10))
	for _, state := range []int{api.Active, api.Draining} {
		for _, c := range []struct {
			name  string
			calls func(s *space.Space)
			code  api.Code
		}{
			{"nothing", func(s *space.Space) {}, 0},
			{"marked", func(s *space.Space) { s.Mark(9) }, api.ErrState},
			{"unmarked", func(s *space.Space) { s.Mark(9); s.Unmark(9) }, 0},
			{"given back", func(s *space.Space) { s.Mark(9); s.Give(9) }, api.ErrState},
			{"settled", func(s *space.Space) { s.Mark(9); s.Give(9); s.Settle() }, 0},
			{"settled and taken", func(s *space.Space) { s.Mark(9); s.Settle() }, api.ErrState},
			{"taken", func(s *space.Space) { take(s, 2) }, api.ErrState},
			{"taken and given", func(s *space.Space) { take(s, 2); s.Give(2) }, 0},
			{"given back till Commit", func(s *space.Space) { take(s, 2); s.Begin(); s.Give(2) }, api.ErrState},
			{"free behind Commit", func(s *space.Space) { take(s, 2); s.Begin(); s.Give(2); s.Commit() }, 0},
			{"on another device", func(s *space.Space) { s.Mark(4098); s.Mark(4099); s.Give(4099) }, 0},
		} {
			s := made(t, active(10), active(10))
			c.calls(s)
			must(t, "Turn", s.Turn(with(roster.Entry{State: state, Size: 10}, active(10))))
			if err := s.Turn(gone); (err != nil) != (c.code != 0) {
				t.Fatalf("%s: Turn: %v", c.name, err)
			} else if err != nil {
				wantCode(t, c.name, err, c.code)
				continue
			}
			if s.Used(0) != 0 || len(s.On(0)) != 0 || s.Taken(9) {
				t.Errorf("%s: Used %d, On %v of a device that was left", c.name, s.Used(0), s.On(0))
			}
			wantCode(t, "Mark of a device that was left", s.Mark(9), api.ErrRange)
			wantCode(t, "Turn back", s.Turn(with(active(10), active(10))), api.ErrState)
			wantCode(t, "Turn back", s.Turn(with(draining(10), active(10))), api.ErrState)
			must(t, "Turn to the same", s.Turn(gone))
		}
	}
}

// take takes addresses till it is that one.
func take(s *space.Space, addr int) {
	for got, err := s.Take(); got != addr && err == nil; got, err = s.Take() {
	}
}

// outOfRoom are addresses that are not in the room of kinds' space.
func outOfRoom() []int {
	addrs := slices.Clone(outside)
	for device, size := range []int{10, 8, 9, 7} {
		for _, sector := range []int{0, 1, size, size + 1, size + 64, api.MaxSectors - 1} {
			addrs = append(addrs, device*api.MaxSectors+sector)
		}
	}
	for sector := range 10 {
		addrs = append(addrs, 2*api.MaxSectors+sector, 4*api.MaxSectors+sector, 7*api.MaxSectors+sector)
	}
	return addrs
}

func TestP8_3OutOfRoom(t *testing.T) {
	s, m := kinds(t)
	for _, addr := range outOfRoom() {
		wantCode(t, "Mark", s.Mark(addr), api.ErrRange)
		wantCode(t, "Unmark", s.Unmark(addr), api.ErrRange)
		wantCode(t, "Give", s.Give(addr), api.ErrRange)
		if s.Taken(addr) {
			t.Errorf("Taken(%d)", addr)
		}
	}
	wantAll(t, s, m)
}

func TestP8_3EdgesOfTheRoom(t *testing.T) {
	s := made(t, active(3), draining(10), active(api.MaxSectors))
	for _, addr := range []int{2, 4098, 4105, 8194, 3*api.MaxSectors - 1} {
		must(t, "Mark", s.Mark(addr))
		if !s.Taken(addr) {
			t.Errorf("Taken(%d): false", addr)
		}
		must(t, "Unmark", s.Unmark(addr))
		must(t, "Mark", s.Mark(addr))
		must(t, "Give", s.Give(addr))
	}
	if n := s.Settle(); n != 5 {
		t.Errorf("Settle: %d, not 5", n)
	}
}

// TestP8_3EachKind demands what Mark, Unmark and Give answer for addresses of each kind, on Active and on Draining devices.
func TestP8_3EachKind(t *testing.T) {
	for _, c := range []struct {
		name               string
		addr               int
		mark, unmark, give api.Code
	}{
		{"free", 9, 0, api.ErrTaken, api.ErrTaken},
		{"marked", 2, api.ErrTaken, 0, 0},
		{"given back", 3, api.ErrTaken, api.ErrTaken, api.ErrTaken},
		{"fresh", freshFirst, api.ErrTaken, api.ErrTaken, 0},
		{"free, Draining", 4096 + 7, 0, api.ErrTaken, api.ErrTaken},
		{"marked, Draining", 4096 + 2, api.ErrTaken, 0, 0},
		{"given back, Draining", 4096 + 3, api.ErrTaken, api.ErrTaken, api.ErrTaken},
		{"free, last", 3*4096 + 6, 0, api.ErrTaken, api.ErrTaken},
		{"fresh, last", freshLast, api.ErrTaken, api.ErrTaken, 0},
	} {
		for name, code := range map[string]api.Code{"Mark": c.mark, "Unmark": c.unmark, "Give": c.give} {
			s, m := kinds(t)
			_, err := call{name: name, addr: c.addr}.do(s)
			if code == 0 {
				must(t, c.name+": "+name, err)
				m.answer(call{name: name, addr: c.addr})
			} else {
				wantCode(t, c.name+": "+name, err, code)
			}
			wantAll(t, s, m)
		}
	}
}

func TestP8_3MarkedIsNotFresh(t *testing.T) {
	s := made(t, active(10))
	must(t, "Mark", s.Mark(5))
	wantCode(t, "Mark again", s.Mark(5), api.ErrTaken)
	must(t, "Give", s.Give(5))
	if s.Used(0) != 1 || s.Free() != 7 {
		t.Fatalf("Give of a marked one: Used %d, Free %d", s.Used(0), s.Free())
	}
	s.Settle()
	must(t, "Mark", s.Mark(5))
	must(t, "Unmark", s.Unmark(5))
	if s.Used(0) != 0 || s.Free() != 8 {
		t.Fatalf("Unmark: Used %d, Free %d", s.Used(0), s.Free())
	}
	// What was fresh once, and is marked now, is not fresh any more.
	wantTake(t, s, 2)
	must(t, "Give", s.Give(2))
	must(t, "Mark", s.Mark(2))
	must(t, "Unmark", s.Unmark(2))
	// And what was marked once, and is taken now, is.
	wantTake(t, s, 2)
	wantCode(t, "Unmark", s.Unmark(2), api.ErrTaken)
	must(t, "Give", s.Give(2))
	wantTake(t, s, 2)
}

func TestP8_3TakeFromTheMost(t *testing.T) {
	for _, c := range []struct {
		name string
		list []roster.Entry
		took []int
	}{
		{"one", []roster.Entry{active(5)}, []int{2, 3, 4}},
		{"alike", []roster.Entry{active(4), active(4), active(4)}, []int{2, 4098, 8194, 3, 4099, 8195}},
		{"more first", []roster.Entry{active(6), active(4)}, []int{2, 3, 4, 4098, 5, 4099}},
		{"less first", []roster.Entry{active(4), active(6)}, []int{4098, 4099, 2, 4100, 3, 4101}},
		{"by one", []roster.Entry{active(4), active(5)}, []int{4098, 2, 4099, 3, 4100}},
		{"Draining", []roster.Entry{draining(20), active(4)}, []int{4098, 4099}},
		{"Draining last", []roster.Entry{active(4), draining(20)}, []int{2, 3}},
		{"Removed", []roster.Entry{removed(20), active(4), removed(9), active(4)}, []int{4098, 12290, 4099, 12291}},
		{"none Active", []roster.Entry{draining(20), removed(20)}, nil},
		{"none", nil, nil},
		{"eight", slices.Repeat([]roster.Entry{active(3)}, 8), []int{2, 4098, 8194, 12290, 16386, 20482, 24578, 28674}},
	} {
		s := made(t, c.list...)
		wantTake(t, s, c.took...)
		for range 3 {
			wantFull(t, s)
		}
		if s.Free() != 0 {
			t.Errorf("%s: Free: %d", c.name, s.Free())
		}
		for _, addr := range c.took {
			if !s.Taken(addr) {
				t.Errorf("%s: %d is not taken", c.name, addr)
			}
		}
	}
}

// TestP8_3TakeTheLeast demands the least sector that is free: not one that is marked, given back or taken; and that what is given back makes a device less free.
func TestP8_3TakeTheLeast(t *testing.T) {
	s := made(t, active(10), active(8))
	for _, addr := range []int{2, 4, 5, 7} {
		must(t, "Mark", s.Mark(addr))
	}
	must(t, "Give", s.Give(5))
	must(t, "Give", s.Give(2))
	// The first device has 3, 6, 8 and 9 free, the second one six.
	wantTake(t, s, 4098, 4099, 3, 4100, 6, 4101, 8, 4102, 9, 4103)
	wantFull(t, s)
	must(t, "Give", s.Give(8))
	must(t, "Give", s.Give(6))
	wantTake(t, s, 6, 8)
	wantFull(t, s)
	if n := s.Settle(); n != 2 {
		t.Fatalf("Settle: %d, not 2", n)
	}
	wantTake(t, s, 2, 5)
	wantFull(t, s)
}

// TestP8_3TakeAll takes all that the greatest space has.
func TestP8_3TakeAll(t *testing.T) {
	s := made(t, slices.Repeat([]roster.Entry{active(api.MaxSectors)}, api.MaxDevices)...)
	for sector := api.Slots; sector < api.MaxSectors; sector++ {
		for device := range api.MaxDevices {
			wantTake(t, s, device*4096+sector)
		}
	}
	wantFull(t, s)
	must(t, "Give", s.Give(32767))
	wantTake(t, s, 32767)
	for device := range api.MaxDevices {
		if on := s.On(device); len(on) != 4094 || on[0] != device*4096+2 || on[4093] != device*4096+4095 {
			t.Errorf("On(%d): %d of them", device, len(on))
		}
	}
}

func TestP8_3Give(t *testing.T) {
	s := made(t, active(6))
	wantTake(t, s, 2, 3)
	must(t, "Mark", s.Mark(4))
	must(t, "Give of a fresh one", s.Give(2))
	if s.Taken(2) || s.Used(0) != 2 || s.Free() != 2 {
		t.Fatalf("Give of a fresh one: Used %d, Free %d", s.Used(0), s.Free())
	}
	wantCode(t, "Give again", s.Give(2), api.ErrTaken)
	must(t, "Give of one that is not fresh", s.Give(4))
	if s.Taken(4) || s.Used(0) != 2 || s.Free() != 2 {
		t.Fatalf("Give of one that is not fresh: Used %d, Free %d", s.Used(0), s.Free())
	}
	wantCode(t, "Give again", s.Give(4), api.ErrTaken)
	wantCode(t, "Mark of what was given back", s.Mark(4), api.ErrTaken)
	wantCode(t, "Unmark of what was given back", s.Unmark(4), api.ErrTaken)
	wantTake(t, s, 2, 5)
	wantFull(t, s)
}

// TestP8_3GiveBetween gives what was taken ahead of Begin, and is fresh: it is given back till Commit, and free then; Back has it taken, and fresh.
func TestP8_3GiveBetween(t *testing.T) {
	for _, end := range []string{"Commit", "Back", "Settle"} {
		s := made(t, active(6))
		wantTake(t, s, 2, 3)
		must(t, "Begin", s.Begin())
		must(t, "Give", s.Give(2))
		if s.Taken(2) || s.Used(0) != 2 || s.Free() != 2 {
			t.Fatalf("Give: Used %d, Free %d", s.Used(0), s.Free())
		}
		wantCode(t, "Give again", s.Give(2), api.ErrTaken)
		wantCode(t, "Mark", s.Mark(2), api.ErrTaken)
		wantCode(t, "Unmark", s.Unmark(2), api.ErrTaken)
		wantTake(t, s, 4)
		switch end {
		case "Commit":
			must(t, "Commit", s.Commit())
			if n := s.Settle(); n != 0 || s.Used(0) != 2 || s.Free() != 2 {
				t.Fatalf("Commit: %d given back, Used %d, Free %d", n, s.Used(0), s.Free())
			}
			wantTake(t, s, 2, 5)
		case "Back":
			must(t, "Back", s.Back())
			if !s.Taken(2) || s.Used(0) != 2 || s.Free() != 2 {
				t.Fatalf("Back: Used %d, Free %d", s.Used(0), s.Free())
			}
			must(t, "Give", s.Give(2))
			wantTake(t, s, 2, 4, 5)
		case "Settle":
			if n := s.Settle(); n != 1 || s.Used(0) != 2 || s.Free() != 2 {
				t.Fatalf("Settle: %d, Used %d, Free %d", n, s.Used(0), s.Free())
			}
			wantTake(t, s, 2, 5)
		}
		wantFull(t, s)
	}
}

// TestP8_3GiveBetweenOthers gives what was taken behind Begin, what was not fresh ahead of it, and what is not fresh any more.
func TestP8_3GiveBetweenOthers(t *testing.T) {
	s := made(t, active(8))
	must(t, "Mark", s.Mark(2))
	wantTake(t, s, 3)
	must(t, "Begin", s.Begin())
	wantTake(t, s, 4)
	must(t, "Give of what was taken since", s.Give(4))
	wantTake(t, s, 4)
	must(t, "Mark", s.Mark(6))
	must(t, "Give of what was marked", s.Give(2))
	must(t, "Give of what was marked since", s.Give(6))
	if s.Used(0) != 4 {
		t.Fatalf("Used: %d, not 4", s.Used(0))
	}
	if n := s.Settle(); n != 2 || s.Used(0) != 2 {
		t.Fatalf("Settle: %d, Used %d", n, s.Used(0))
	}
	must(t, "Give of what is not fresh any more", s.Give(3))
	must(t, "Commit", s.Commit())
	if s.Taken(3) || s.Used(0) != 2 {
		t.Fatalf("Commit frees what was given back, and was not fresh: Used %d", s.Used(0))
	}
	if n := s.Settle(); n != 1 || s.Used(0) != 1 {
		t.Fatalf("Settle: %d, Used %d", n, s.Used(0))
	}
}

// TestP8_3GiveOfNewRoom demands that what came by Turn behind Begin, and was taken since, is free at once.
func TestP8_3GiveOfNewRoom(t *testing.T) {
	s := made(t, active(3))
	wantTake(t, s, 2)
	must(t, "Begin", s.Begin())
	must(t, "Turn", s.Turn(with(active(4), active(4))))
	wantTake(t, s, 4098, 3, 4099)
	for _, addr := range []int{4098, 3, 4099} {
		must(t, "Give", s.Give(addr))
	}
	if s.Used(0) != 1 || s.Used(1) != 0 || s.Free() != 3 {
		t.Fatalf("Used %d, %d, Free %d", s.Used(0), s.Used(1), s.Free())
	}
	must(t, "Give", s.Give(2))
	if s.Used(0) != 1 {
		t.Fatalf("Used: %d, not 1: what was taken ahead of Begin is free", s.Used(0))
	}
}

// TestP8_3TakenOnceMore gives an address that was taken ahead of Begin, was free since, and was taken once more: that taking is not one ahead of Begin, so it is free at once. Back has it as it was.
func TestP8_3TakenOnceMore(t *testing.T) {
	mark := func(s *space.Space) error { return s.Mark(2) }
	take := func(s *space.Space) error { _, err := s.Take(); return err }
	giveAndSettle := func(s *space.Space) error { err := s.Give(2); s.Settle(); return err }
	settleAndUnmark := func(s *space.Space) error { s.Settle(); return s.Unmark(2) }
	for _, c := range []struct {
		name         string
		ahead, freed func(s *space.Space) error
		fresh        bool
	}{
		{"marked, unmarked", mark, func(s *space.Space) error { return s.Unmark(2) }, false},
		{"marked, given, settled", mark, giveAndSettle, false},
		{"marked, settled, unmarked", mark, settleAndUnmark, false},
		{"taken, given, settled", take, giveAndSettle, true},
		{"taken, settled, unmarked", take, settleAndUnmark, true},
	} {
		for _, end := range []string{"Commit", "Back"} {
			s := made(t, active(4))
			must(t, c.name, c.ahead(s))
			must(t, "Begin", s.Begin())
			must(t, c.name, c.freed(s))
			for range 3 {
				wantTake(t, s, 2)
				must(t, "Give", s.Give(2))
				if s.Taken(2) || s.Used(0) != 0 || s.Free() != 2 {
					t.Fatalf("%s: it is not free at once: Used %d, Free %d", c.name, s.Used(0), s.Free())
				}
			}
			if end == "Commit" {
				must(t, "Commit", s.Commit())
				wantTake(t, s, 2, 3)
				continue
			}
			must(t, "Back", s.Back())
			if !s.Taken(2) || s.Used(0) != 1 {
				t.Fatalf("%s: Back: Used %d", c.name, s.Used(0))
			}
			if err := s.Unmark(2); (err != nil) != c.fresh {
				t.Fatalf("%s: Unmark behind Back: %v", c.name, err)
			}
		}
	}
}

// TestP8_3MarkedOnceMore gives an address that was taken ahead of Begin, was free since, and was marked: it is not fresh, so it is given back, and Commit does not free it.
func TestP8_3MarkedOnceMore(t *testing.T) {
	s := made(t, active(4))
	wantTake(t, s, 2)
	must(t, "Begin", s.Begin())
	s.Settle()
	must(t, "Unmark", s.Unmark(2))
	must(t, "Mark", s.Mark(2))
	must(t, "Give", s.Give(2))
	must(t, "Commit", s.Commit())
	if s.Taken(2) || s.Used(0) != 1 {
		t.Fatalf("Used: %d, not 1", s.Used(0))
	}
	if n := s.Settle(); n != 1 {
		t.Fatalf("Settle: %d, not 1", n)
	}
}

// TestP8_3NeverFreeSince demands that what was taken ahead of Begin, and was not free since, is given back till Commit, whatever else was free since, and whatever was settled ahead of that Begin.
func TestP8_3NeverFreeSince(t *testing.T) {
	s := made(t, active(6))
	must(t, "Begin", s.Begin())
	s.Settle()
	must(t, "Commit", s.Commit())
	s.Settle()
	wantTake(t, s, 2)
	must(t, "Mark", s.Mark(3))
	must(t, "Begin", s.Begin())
	must(t, "Unmark", s.Unmark(3))
	wantTake(t, s, 3)
	must(t, "Give of what was free since", s.Give(3))
	must(t, "Give of what was not", s.Give(2))
	if s.Taken(2) || s.Used(0) != 1 || s.Free() != 3 {
		t.Fatalf("Used %d, Free %d", s.Used(0), s.Free())
	}
	wantTake(t, s, 3)
	must(t, "Commit", s.Commit())
	wantTake(t, s, 2)
}

func TestP8_3Settle(t *testing.T) {
	s, m := kinds(t)
	play(t, s, m, call{name: "Give", addr: 2}, call{name: "Give", addr: freshLast})
	if n := s.Settle(); n != 4 {
		t.Fatalf("Settle: %d, not 4", n)
	}
	m.settle()
	wantAll(t, s, m)
	if n := s.Settle(); n != 0 {
		t.Fatalf("Settle again: %d, not 0", n)
	}
	wantAll(t, s, m)
	must(t, "Give of what is not fresh any more", s.Give(freshFirst))
	if s.Used(0) != m.used(0) {
		t.Errorf("Used: %d, not %d", s.Used(0), m.used(0))
	}
	if n := s.Settle(); n != 1 {
		t.Fatalf("Settle: %d, not 1", n)
	}
}

func TestP8_4Busy(t *testing.T) {
	s, m := kinds(t)
	for _, end := range []string{"Commit", "Back", "Back", "Commit", "Commit"} {
		wantCode(t, "Commit", s.Commit(), api.ErrBusy)
		wantCode(t, "Back", s.Back(), api.ErrBusy)
		wantAll(t, s, m)
		must(t, "Begin", s.Begin())
		wantTold(t, s, m)
		for range 2 {
			wantCode(t, "Begin", s.Begin(), api.ErrBusy)
			wantTold(t, s, m)
		}
		_, err := call{name: end}.do(s)
		must(t, end, err)
		wantAll(t, s, m)
	}
}

// TestP8_4BeginTwice demands that a Begin that is refused leaves what may be taken back as it was.
func TestP8_4BeginTwice(t *testing.T) {
	s := made(t, active(10))
	must(t, "Begin", s.Begin())
	wantTake(t, s, 2)
	wantCode(t, "Begin", s.Begin(), api.ErrBusy)
	must(t, "Give", s.Give(2))
	if s.Used(0) != 0 {
		t.Fatalf("Used: %d: what was taken since Begin is not free", s.Used(0))
	}
	wantTake(t, s, 2)
	must(t, "Back", s.Back())
	if s.Used(0) != 0 || s.Free() != 8 {
		t.Fatalf("Back: Used %d, Free %d", s.Used(0), s.Free())
	}
}

// orders calls do with all orders of a list.
func orders(list []call, do func([]call)) {
	var lay func(from int)
	lay = func(from int) {
		if from == len(list) {
			do(list)
		}
		for i := from; i < len(list); i++ {
			list[from], list[i] = list[i], list[from]
			lay(from + 1)
			list[from], list[i] = list[i], list[from]
		}
	}
	lay(0)
}

// changing are calls that change kinds' space, each of another kind.
func changing() []call {
	return []call{
		{name: "Mark", addr: 9},
		{name: "Unmark", addr: 4098},
		{name: "Take"},
		{name: "Give", addr: freshFirst},
		{name: "Settle"},
		{name: "Turn", list: []roster.Entry{draining(11), active(8), removed(10), active(7), active(5)}},
	}
}

func TestP8_4Back(t *testing.T) {
	orders(changing(), func(calls []call) {
		s, m := kinds(t)
		for range 2 {
			must(t, "Begin", s.Begin())
			for _, c := range calls {
				if _, err := c.do(s); err != nil {
					t.Fatalf("%v: %v", c, err)
				}
			}
			must(t, "Back", s.Back())
			wantAll(t, s, m)
		}
	})
}

func TestP8_4Commit(t *testing.T) {
	orders(changing(), func(calls []call) {
		s, m := kinds(t)
		play(t, s, m, call{name: "Begin"})
		play(t, s, m, calls...)
		play(t, s, m, call{name: "Commit"})
		wantAll(t, s, m)
		play(t, s, m, call{name: "Begin"}, call{name: "Take"}, call{name: "Back"})
		wantAll(t, s, m)
	})
}

// TestP8_4EachAlone takes back, and lets stay, each call alone, and demands that it changed something meanwhile.
func TestP8_4EachAlone(t *testing.T) {
	for _, c := range changing() {
		for _, end := range []string{"Commit", "Back"} {
			s, m := kinds(t)
			play(t, s, m, call{name: "Begin"}, c, call{name: end})
			wantAll(t, s, m)
			play(t, s, m, call{name: "Begin"}, call{name: "Settle"}, call{name: end}, call{name: "Begin"}, call{name: "Take"})
		}
	}
}

// TestP8_4BackOfSettle demands that what was given back, and what was fresh, is so again.
func TestP8_4BackOfSettle(t *testing.T) {
	s := made(t, active(10))
	wantTake(t, s, 2)
	must(t, "Mark", s.Mark(3))
	must(t, "Give", s.Give(3))
	must(t, "Begin", s.Begin())
	if n := s.Settle(); n != 1 {
		t.Fatalf("Settle: %d", n)
	}
	must(t, "Unmark of what is not fresh any more", s.Unmark(2))
	must(t, "Back", s.Back())
	wantCode(t, "Unmark of what is fresh again", s.Unmark(2), api.ErrTaken)
	wantCode(t, "Mark of what is given back again", s.Mark(3), api.ErrTaken)
	if n := s.Settle(); n != 1 {
		t.Fatalf("Settle: %d, not 1 again", n)
	}
}

// TestP8_4BackOfTurn demands that a device that was left is there again, and one that came is not.
func TestP8_4BackOfTurn(t *testing.T) {
	s := made(t, active(10), draining(10))
	wantTake(t, s, 2)
	must(t, "Begin", s.Begin())
	must(t, "Turn", s.Turn(with(active(20), removed(10), active(30))))
	wantTake(t, s, 8194)
	must(t, "Mark", s.Mark(19))
	must(t, "Back", s.Back())
	if got, want := s.Roster().List, []roster.Entry{active(10), draining(10)}; !slices.Equal(got, want) {
		t.Fatalf("Roster: %v, not %v", got, want)
	}
	wantCode(t, "Mark", s.Mark(19), api.ErrRange)
	wantCode(t, "Mark", s.Mark(8194), api.ErrRange)
	must(t, "Mark", s.Mark(4098))
	// All that came is free if it comes again.
	must(t, "Turn", s.Turn(with(active(20), draining(10), active(30))))
	if s.Used(0) != 1 || s.Used(1) != 1 || s.Used(2) != 0 || s.Free() != 45 {
		t.Fatalf("Used %d, %d, %d, Free %d", s.Used(0), s.Used(1), s.Used(2), s.Free())
	}
}

// TestP8_4Refused demands that calls that are refused between Begin and its end leave all to be taken back.
func TestP8_4Refused(t *testing.T) {
	for _, end := range []string{"Commit", "Back"} {
		s, m := kinds(t)
		play(t, s, m, call{name: "Begin"},
			call{name: "Mark", addr: 2}, call{name: "Mark", addr: -1}, call{name: "Unmark", addr: freshFirst}, call{name: "Unmark", addr: 10},
			call{name: "Give", addr: 3}, call{name: "Give", addr: 1}, call{name: "Begin"}, call{name: "Turn"}, call{name: "Turn", list: []roster.Entry{{}}},
			call{name: "Give", addr: freshFirst}, call{name: "Begin"}, call{name: end}, call{name: end})
		wantAll(t, s, m)
	}
}

func TestP8_5EachKind(t *testing.T) {
	s, m := kinds(t)
	if s.Free() != 4 {
		t.Errorf("Free: %d, not 4", s.Free())
	}
	for _, c := range []struct {
		device, used int
		on           []int
	}{
		{math.MinInt, 0, nil},
		{-1, 0, nil},
		{0, 6, []int{2, 4, 5, 6, 7}},
		{1, 2, []int{4098}},
		{2, 0, nil},
		{3, 3, []int{3*4096 + 2, 3*4096 + 4}},
		{4, 0, nil},
		{7, 0, nil},
		{8, 0, nil},
		{math.MaxInt, 0, nil},
	} {
		if s.Used(c.device) != c.used || !slices.Equal(s.On(c.device), c.on) {
			t.Errorf("device %d: Used %d, On %v, not %d, %v", c.device, s.Used(c.device), s.On(c.device), c.used, c.on)
		}
	}
	for _, addr := range []int{2, freshFirst, 4098, 3*4096 + 2, freshLast} {
		if !s.Taken(addr) {
			t.Errorf("Taken(%d): false", addr)
		}
	}
	for _, addr := range append(outOfRoom(), 3, 9, 4099, 4100, 3*4096+3, 3*4096+5) {
		if s.Taken(addr) {
			t.Errorf("Taken(%d): true", addr)
		}
	}
	wantAll(t, s, m)
}

// TestP8_5BehindEach demands what is told behind each of the other calls, done or refused, in numbers.
func TestP8_5BehindEach(t *testing.T) {
	s := made(t, active(6), active(5))
	step := 0
	want := func(err error, free, first, second int, on0, on1 []int) {
		t.Helper()
		step++
		if s.Free() != free || s.Used(0) != first || s.Used(1) != second || !slices.Equal(s.On(0), on0) || !slices.Equal(s.On(1), on1) {
			t.Fatalf("step %d: %v, Free %d, Used %d, %d, On %v, %v", step, err, s.Free(), s.Used(0), s.Used(1), s.On(0), s.On(1))
		}
		for addr := range 2 * api.MaxSectors {
			if s.Taken(addr) != (slices.Contains(on0, addr) || slices.Contains(on1, addr)) {
				t.Fatalf("step %d: Taken(%d): %t", step, addr, s.Taken(addr))
			}
		}
	}
	want(nil, 7, 0, 0, nil, nil)
	want(s.Mark(5), 6, 1, 0, []int{5}, nil)
	want(s.Mark(5), 6, 1, 0, []int{5}, nil)
	want(s.Mark(6), 6, 1, 0, []int{5}, nil)
	addr, err := s.Take()
	want(err, 5, 2, 0, []int{2, 5}, nil)
	want(s.Unmark(addr), 5, 2, 0, []int{2, 5}, nil)
	want(s.Mark(4099), 4, 2, 1, []int{2, 5}, []int{4099})
	want(s.Give(4099), 4, 2, 1, []int{2, 5}, nil)
	want(s.Give(4099), 4, 2, 1, []int{2, 5}, nil)
	want(s.Begin(), 4, 2, 1, []int{2, 5}, nil)
	want(s.Give(addr), 4, 2, 1, []int{5}, nil)
	want(s.Commit(), 5, 1, 1, []int{5}, nil)
	want(s.Turn(with(draining(6), active(5))), 2, 1, 1, []int{5}, nil)
	want(s.Begin(), 2, 1, 1, []int{5}, nil)
	want(s.Unmark(5), 2, 0, 1, nil, nil)
	s.Settle()
	want(nil, 3, 0, 0, nil, nil)
	want(s.Turn(with(removed(6), active(8))), 6, 0, 0, nil, nil)
	want(s.Mark(5), 6, 0, 0, nil, nil)
	want(s.Back(), 2, 1, 1, []int{5}, nil)
	want(s.Turn(with(active(6))), 2, 1, 1, []int{5}, nil)
}

// TestP8_5AskedOnly demands that asking changes nothing.
func TestP8_5AskedOnly(t *testing.T) {
	s, m := kinds(t)
	for range 3 {
		wantTold(t, s, m)
	}
	wantAll(t, s, m)
	play(t, s, m, call{name: "Begin"})
	for range 3 {
		wantTold(t, s, m)
	}
	play(t, s, m, call{name: "Back"})
	wantAll(t, s, m)
}
