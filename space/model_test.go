package space_test

import (
	"maps"
	"math"
	"slices"
	"testing"

	"portage/api"
	"portage/roster"
	"portage/space"
)

// outside are numbers that are no device's, and no address.
var outside = []int{math.MinInt, math.MinInt + 1, math.MinInt32, -api.MaxSectors, -2, -1, api.MaxDevices * api.MaxSectors, api.MaxDevices*api.MaxSectors + 2, math.MaxInt32, 1 << 32, 1<<32 + 2, math.MaxInt - 1, math.MaxInt}

// thing is what an address is that is not free: given back or taken, whether it was taken since it was last settled, and whether it was taken ahead of the last Begin, and was not free since.
type thing struct{ back, fresh, old bool }

// model is a space as the chapter's words put it, address by address.
type model struct {
	list  []roster.Entry
	at    map[int]thing
	saved *model
}

// modelOf is a model in which all is free.
func modelOf(list ...roster.Entry) *model {
	return &model{list: slices.Clone(list), at: map[int]thing{}}
}

// call is a call that changes a space, with what it is handed.
type call struct {
	name string
	addr int
	list []roster.Entry
}

// do is what the space answers to a call.
func (c call) do(s *space.Space) (number int, err error) {
	switch c.name {
	case "Turn":
		return 0, s.Turn(with(c.list...))
	case "Mark":
		return 0, s.Mark(c.addr)
	case "Unmark":
		return 0, s.Unmark(c.addr)
	case "Take":
		return s.Take()
	case "Give":
		return 0, s.Give(c.addr)
	case "Settle":
		return s.Settle(), nil
	case "Begin":
		return 0, s.Begin()
	case "Commit":
		return 0, s.Commit()
	case "Back":
		return 0, s.Back()
	}
	panic(c.name)
}

// isMember is the roster's chapter's sentence about members.
func isMember(e roster.Entry) bool { return e.State == api.Active || e.State == api.Draining }

// inRoom is the chapter's sentence about addresses.
func (m *model) inRoom(addr int) bool {
	if addr < 0 || addr/api.MaxSectors >= len(m.list) {
		return false
	}
	e, sector := m.list[addr/api.MaxSectors], addr%api.MaxSectors
	return isMember(e) && sector >= api.Slots && sector < e.Size
}

// isTaken is whether an address is taken.
func (m *model) isTaken(addr int) bool {
	x, ok := m.at[addr]
	return ok && !x.back
}

// used is how many addresses of a device are not free.
func (m *model) used(device int) int {
	count := 0
	for addr := range m.at {
		if addr/api.MaxSectors == device {
			count++
		}
	}
	return count
}

// free is how many addresses of a device are free, if it is Active.
func (m *model) free(device int) int {
	e := m.list[device]
	if e.State != api.Active {
		return 0
	}
	return e.Size - api.Slots - m.used(device)
}

// answer does a call to the model, and is what it answers.
func (m *model) answer(c call) (number int, code api.Code) {
	x, held := m.at[c.addr]
	switch c.name {
	case "Mark", "Unmark", "Give":
		if !m.inRoom(c.addr) {
			return 0, api.ErrRange
		}
	}
	switch c.name {
	case "Turn":
		return 0, m.turn(c.list)
	case "Mark":
		if held {
			return 0, api.ErrTaken
		}
		m.at[c.addr] = thing{}
	case "Unmark":
		if !held || x.back || x.fresh {
			return 0, api.ErrTaken
		}
		delete(m.at, c.addr)
	case "Take":
		return m.take()
	case "Give":
		return 0, m.give(c.addr)
	case "Settle":
		return m.settle(), 0
	default:
		return 0, m.endOrBegin(c.name)
	}
	return 0, 0
}

// turn is the chapter's sentence about Turn.
func (m *model) turn(list []roster.Entry) api.Code {
	if with(list...).Check() != nil {
		return api.ErrForm
	}
	if len(list) < len(m.list) {
		return api.ErrState
	}
	for device, was := range m.list {
		is := list[device]
		if is.Size < was.Size || isMember(was) && m.used(device) > 0 && !isMember(is) || !isMember(was) && isMember(is) {
			return api.ErrState
		}
	}
	m.list = slices.Clone(list)
	return 0
}

// take is the chapter's sentence about Take.
func (m *model) take() (int, api.Code) {
	best := -1
	for device := range m.list {
		if m.free(device) > 0 && (best < 0 || m.free(device) > m.free(best)) {
			best = device
		}
	}
	if best < 0 {
		return 0, api.ErrFull
	}
	addr := best*api.MaxSectors + api.Slots
	for _, held := m.at[addr]; held; _, held = m.at[addr] {
		addr++
	}
	m.at[addr] = thing{fresh: true}
	return addr, 0
}

// give is the chapter's sentence about Give.
func (m *model) give(addr int) api.Code {
	x := m.at[addr]
	switch {
	case !m.isTaken(addr):
		return api.ErrTaken
	case x.fresh && !(m.saved != nil && x.old):
		delete(m.at, addr)
	default:
		x.back = true
		m.at[addr] = x
	}
	return 0
}

// settle is the chapter's sentence about Settle.
func (m *model) settle() int {
	count := 0
	for addr, x := range m.at {
		if x.back {
			count++
			delete(m.at, addr)
		} else {
			x.fresh = false
			m.at[addr] = x
		}
	}
	return count
}

// endOrBegin is the chapter's sentences about Begin, Commit and Back.
func (m *model) endOrBegin(name string) api.Code {
	if (m.saved != nil) == (name == "Begin") {
		return api.ErrBusy
	}
	switch name {
	case "Begin":
		for addr, x := range m.at {
			x.old = true
			m.at[addr] = x
		}
		m.saved = &model{list: m.list, at: maps.Clone(m.at)}
	case "Commit":
		maps.DeleteFunc(m.at, func(_ int, x thing) bool { return x.back && x.fresh })
		m.saved = nil
	case "Back":
		*m = *m.saved
	}
	return 0
}

// wantLike demands that a space answers a call as the chapter's words do.
func wantLike(t *testing.T, s *space.Space, m *model, c call) {
	t.Helper()
	number, err := c.do(s)
	want, code := m.answer(c)
	if code != 0 {
		wantCode(t, c.name, err, code)
	} else {
		must(t, c.name, err)
	}
	if number != want {
		t.Fatalf("%v: %d, not %d", c, number, want)
	}
}

// wantTold demands that all that a space tells is as the chapter's words put it.
func wantTold(t *testing.T, s *space.Space, m *model) {
	t.Helper()
	if got := s.Roster().List; !slices.Equal(got, m.list) {
		t.Fatalf("Roster: %v, not %v", got, m.list)
	}
	on, free := make([][]int, api.MaxDevices), 0
	for _, addr := range slices.Sorted(maps.Keys(m.at)) {
		if m.isTaken(addr) {
			on[addr/api.MaxSectors] = append(on[addr/api.MaxSectors], addr)
		}
	}
	for device := range m.list {
		free += m.free(device)
	}
	if s.Free() != free {
		t.Fatalf("Free: %d, not %d", s.Free(), free)
	}
	for device := range api.MaxDevices {
		if got := s.On(device); !slices.Equal(got, on[device]) {
			t.Fatalf("On(%d): %v, not %v", device, got, on[device])
		}
		if s.Used(device) != m.used(device) {
			t.Fatalf("Used(%d): %d, not %d", device, s.Used(device), m.used(device))
		}
	}
	for _, device := range append([]int{api.MaxDevices, api.MaxDevices + 1}, outside...) {
		if s.Used(device) != 0 || len(s.On(device)) != 0 {
			t.Fatalf("Used(%d): %d, On: %v", device, s.Used(device), s.On(device))
		}
	}
	for _, addr := range probes(m.list) {
		if s.Taken(addr) != m.isTaken(addr) {
			t.Fatalf("Taken(%d): %t", addr, s.Taken(addr))
		}
	}
}

// probes are the addresses of all devices, in their rooms and around them, and some that are none.
func probes(list []roster.Entry) []int {
	addrs := slices.Clone(outside)
	for device := range api.MaxDevices {
		size := 0
		if device < len(list) {
			size = list[device].Size
		}
		for sector := range min(size+3, api.MaxSectors) {
			addrs = append(addrs, device*api.MaxSectors+sector)
		}
		addrs = append(addrs, device*api.MaxSectors+api.MaxSectors-1)
	}
	return addrs
}

// wantFresh demands that just those are fresh which the model says, by what Unmark refuses; all is taken back behind that. It is for a space in which nothing is begun.
func wantFresh(t *testing.T, s *space.Space, m *model) {
	t.Helper()
	must(t, "Begin", s.Begin())
	for addr := range m.at {
		x, err := m.at[addr], s.Unmark(addr)
		if x.back || x.fresh {
			wantCode(t, "Unmark", err, api.ErrTaken)
		} else {
			must(t, "Unmark", err)
		}
	}
	must(t, "Back", s.Back())
	wantTold(t, s, m)
}

// wantAll demands that a space, in which nothing is begun, is in all like the model.
func wantAll(t *testing.T, s *space.Space, m *model) {
	t.Helper()
	wantTold(t, s, m)
	wantFresh(t, s, m)
}

// play demands that a space answers calls, one behind the other, as the chapter's words do, and tells what they say behind each.
func play(t *testing.T, s *space.Space, m *model, calls ...call) {
	t.Helper()
	for _, c := range calls {
		wantLike(t, s, m, c)
		wantTold(t, s, m)
	}
}

// TestP8Small lets small spaces go through all sequences of a few calls, behind some that bring them to where the chapter tells cases apart, and holds all that they answer against the chapter's words.
func TestP8Small(t *testing.T) {
	first := []roster.Entry{active(4), active(3)}
	mark, give, take, begin := call{name: "Mark", addr: 2}, call{name: "Give", addr: 2}, call{name: "Take"}, call{name: "Begin"}
	calls := []call{
		mark, give, take, begin, {name: "Unmark", addr: 2}, {name: "Settle"}, {name: "Commit"}, {name: "Back"},
		{name: "Turn", list: []roster.Entry{active(5), draining(3)}},
	}
	for _, ahead := range [][]call{nil, {mark, begin}, {take, begin}, {mark, give, begin}, {take, begin, give}} {
		for length, count := 1, len(calls); length <= 4; length, count = length+1, count*len(calls) {
			for sequence := range count {
				s, m := made(t, first...), modelOf(first...)
				play(t, s, m, ahead...)
				for range length {
					wantLike(t, s, m, calls[sequence%len(calls)])
					sequence /= len(calls)
				}
				wantTold(t, s, m)
				if m.saved == nil {
					wantFresh(t, s, m)
				}
			}
		}
	}
}

// numbers tells numbers in an order that is always the same, and looks like none.
type numbers uint64

func (n *numbers) below(limit int) int {
	*n = *n*6364136223846793005 + 1442695040888963407
	return int(uint64(*n)>>33) % limit
}

// some is an address, most often one in the room of a device.
func (n *numbers) some(list []roster.Entry) int {
	if n.below(20) == 0 || len(list) == 0 {
		return outside[n.below(len(outside))]
	}
	device := n.below(len(list))
	return device*api.MaxSectors + n.below(list[device].Size+2)
}

// entry is an entry that follows another one, now and then one that may not.
func (n *numbers) entry(e roster.Entry) roster.Entry {
	switch n.below(30) {
	case 0:
		e.Size--
	case 1:
		e.State = api.Active
	case 2:
		e.State = api.Removed
	case 3:
		e.State = n.below(5)
	}
	if e.State == api.Active && n.below(6) == 0 {
		e.State = api.Draining
	} else if e.State == api.Draining && n.below(2) == 0 {
		e.State = []int{api.Active, api.Removed}[n.below(2)]
	}
	e.Size += n.below(6) / 5
	return e
}

// roster is a roster that a list might turn to.
func (n *numbers) roster(list []roster.Entry) []roster.Entry {
	next := make([]roster.Entry, 0, len(list)+1)
	for _, e := range list {
		next = append(next, n.entry(e))
	}
	switch n.below(10) {
	case 0, 1:
		next = append(next, roster.Entry{State: 1 + n.below(3), Size: 3 + n.below(8)})
	case 2:
		next = next[:n.below(len(next)+1)]
	}
	return next
}

// call is some call.
func (n *numbers) call(m *model) call {
	c := call{name: []string{"Mark", "Mark", "Unmark", "Take", "Take", "Take", "Give", "Give", "Give", "Settle", "Begin", "Commit", "Back", "Turn"}[n.below(14)]}
	if c.name == "Settle" && n.below(3) > 0 {
		c.name = "Take"
	}
	c.addr = n.some(m.list)
	c.list = n.roster(m.list)
	return c
}

// TestP8Long lets spaces go through many calls, and holds all that they tell against the chapter's words behind each.
func TestP8Long(t *testing.T) {
	for run := range 120 {
		next := numbers(run)
		var list []roster.Entry
		for range run % 5 {
			list = append(list, roster.Entry{State: 1 + next.below(7)/5, Size: 3 + next.below(12)})
		}
		s, m := made(t, list...), modelOf(list...)
		for range 300 {
			play(t, s, m, next.call(m))
			if m.saved == nil && next.below(5) == 0 {
				wantFresh(t, s, m)
			}
		}
	}
}
