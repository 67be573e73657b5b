package roster_test

import (
	"slices"
	"testing"

	"portage/api"
	"portage/roster"
)

// isRight is the chapter's sentence about rosters.
func isRight(list []roster.Entry) bool {
	for _, e := range list {
		if e.State != api.Active && e.State != api.Draining && e.State != api.Removed {
			return false
		}
		if e.Size < 0 || e.Size > api.MaxSectors {
			return false
		}
		if e.State != api.Removed && e.Size <= api.Slots {
			return false
		}
	}
	return len(list) <= api.MaxDevices
}

// othersActive is how many entries beside one are Active.
func othersActive(list []roster.Entry, but int) int {
	count := 0
	for device, e := range list {
		if device != but && e.State == api.Active {
			count++
		}
	}
	return count
}

// refusal is the first error that the chapter names for a call, 0 if there is none.
func refusal(list []roster.Entry, call string, device, size int) api.Code {
	switch {
	case !isRight(list):
		return api.ErrForm
	case call == "Add" && len(list) == api.MaxDevices:
		return api.ErrMany
	case call == "Add" && (size < api.Slots+1 || size > api.MaxSectors):
		return api.ErrRange
	case call == "Add":
		return 0
	case device < 0 || device >= len(list):
		return api.ErrDevice
	case call == "Grow" && list[device].State == api.Removed:
		return api.ErrState
	case call == "Grow" && (size <= list[device].Size || size > api.MaxSectors):
		return api.ErrRange
	case call == "Drain" && (list[device].State != api.Active || othersActive(list, device) == 0):
		return api.ErrState
	case (call == "Cancel" || call == "Remove") && list[device].State != api.Draining:
		return api.ErrState
	}
	return 0
}

// changed is the list behind a call that is not refused.
func changed(list []roster.Entry, call string, device, size int) []roster.Entry {
	list = slices.Clone(list)
	switch call {
	case "Add":
		list = append(list, active(size))
	case "Grow":
		list[device].Size = size
	case "Drain":
		list[device].State = api.Draining
	case "Cancel":
		list[device].State = api.Active
	case "Remove":
		list[device].State = api.Removed
	}
	return list
}

// done is what the roster answers to a call.
func done(r roster.Roster, call string, device, size int) (o roster.Roster, number int, err error) {
	switch call {
	case "Add":
		return r.Add(size)
	case "Grow":
		o, err = r.Grow(device, size)
	case "Drain":
		o, err = r.Drain(device)
	case "Cancel":
		o, err = r.Cancel(device)
	case "Remove":
		o, err = r.Remove(device)
	}
	return o, 0, err
}

// calls are the calls that tell another roster.
var calls = []string{"Add", "Grow", "Drain", "Cancel", "Remove"}

// wantLike demands that a call answers as the chapter's words do, and tells the list behind it.
func wantLike(t *testing.T, list []roster.Entry, call string, device, size int) []roster.Entry {
	t.Helper()
	o, number, err := done(with(list...), call, device, size)
	if code := refusal(list, call, device, size); code != 0 {
		wantRefused(t, call, o, err, code)
		if number != 0 {
			t.Errorf("%s tells the device %d beside an error", call, number)
		}
	} else {
		was := len(list)
		list = changed(list, call, device, size)
		wantRoster(t, call, o, err, list...)
		if call == "Add" && number != was {
			t.Errorf("Add tells the device %d, not %d", number, was)
		}
	}
	if t.Failed() {
		t.Fatalf("%s(%d, %d) of %v", call, device, size, list)
	}
	return list
}

// wantTold demands that all that a roster tells about itself is as the chapter's words put it.
func wantTold(t *testing.T, list []roster.Entry) {
	t.Helper()
	r := with(list...)
	var members, actives []int
	room, right := 0, isRight(list)
	b := []byte{byte(len(list))}
	for device, e := range list {
		if e.State == api.Active || e.State == api.Draining {
			members = append(members, device)
			room += e.Size - 2
		}
		if e.State == api.Active {
			actives = append(actives, device)
		}
		b = append(b, byte(e.State), byte(e.Size/256), byte(e.Size%256))
	}
	if !right {
		members, actives, room, b = nil, nil, 0, nil
	}
	got, err := r.Bytes()
	if (r.Check() == nil) != right || (err == nil) != right || r.Same(r) != right || r.Room() != room ||
		!slices.Equal(r.Members(), members) || !slices.Equal(r.Actives(), actives) || !slices.Equal(got, b) {
		t.Fatalf("%v tells %v, %v, %t, %d, %v, %v, %x", list, r.Check(), err, r.Same(r), r.Room(), r.Members(), r.Actives(), got)
	}
	o, n, err := roster.Parse(append(b, 1, 2, 3))
	if right && (err != nil || n != len(b) || !slices.Equal(o.List, list) || !o.Same(r) || !r.Same(o)) {
		t.Fatalf("Parse of %x: %v, %d, %v", b, o, n, err)
	}
}

// TestP5Small holds all rosters of up to two entries at the edges against the chapter's words, in each call.
func TestP5Small(t *testing.T) {
	sizes := []int{-1, 0, api.Slots, api.Slots + 1, 100, api.MaxSectors, api.MaxSectors + 1}
	lists := [][]roster.Entry{nil}
	for state := -1; state <= api.Removed+1; state++ {
		for _, size := range sizes {
			lists = append(lists, []roster.Entry{{State: state, Size: size}})
		}
	}
	for _, first := range lists[1:] {
		for _, second := range lists[1 : 1+(api.Removed+3)*len(sizes)] {
			lists = append(lists, slices.Concat(first, second))
		}
	}
	for _, list := range lists {
		wantTold(t, list)
		for _, call := range calls {
			for device := -1; device <= len(list); device++ {
				for _, size := range append(sizes, 99, 101) {
					wantLike(t, list, call, device, size)
				}
			}
		}
	}
}

// numbers tells numbers in an order that is always the same, and looks like none.
type numbers uint64

func (n *numbers) below(limit int) int {
	*n = *n*6364136223846793005 + 1442695040888963407
	return int(uint64(*n)>>33) % limit
}

// TestP5Long lets rosters go through many calls, and holds them against the chapter's words behind each.
func TestP5Long(t *testing.T) {
	for run := range 300 {
		next := numbers(run)
		var list []roster.Entry
		for range 100 {
			call := calls[next.below(len(calls))]
			device := next.below(len(list)+2) - 1
			size := next.below(40)
			if next.below(5) == 0 {
				size = next.below(api.MaxSectors + 20)
			}
			list = wantLike(t, list, call, device, size)
			wantTold(t, list)
		}
	}
}
