package roster_test

import (
	"bytes"
	"errors"
	"math"
	"slices"
	"testing"

	"portage/api"
	"portage/fault"
	"portage/roster"
)

// edges are numbers that a call may be handed at its worst.
var edges = []int{math.MinInt, math.MinInt + 1, math.MinInt32, -api.MaxSectors, -2, -1, api.MaxSectors + 1, math.MaxUint16 + 1, math.MaxInt32, math.MaxInt - 1, math.MaxInt}

// with is a roster with these entries.
func with(entries ...roster.Entry) roster.Roster { return roster.Roster{List: entries} }

func active(size int) roster.Entry   { return roster.Entry{State: api.Active, Size: size} }
func draining(size int) roster.Entry { return roster.Entry{State: api.Draining, Size: size} }
func removed(size int) roster.Entry  { return roster.Entry{State: api.Removed, Size: size} }

// eight is a roster that has no place for another entry.
func eight() roster.Roster {
	return with(active(10), draining(300), removed(0), active(3), removed(api.MaxSectors), draining(api.MaxSectors), active(api.MaxSectors), removed(2))
}

// notRight are rosters that are not right, each for one reason, with the entry it is about at several places.
func notRight() []roster.Roster {
	bad := []roster.Entry{
		{State: api.Absent, Size: 10}, {}, {State: -1, Size: 10}, {State: api.Removed + 1, Size: 10},
		{State: math.MinInt, Size: 10}, {State: math.MaxInt, Size: 10}, {State: 257, Size: 10},
		active(-1), active(0), active(api.Slots), active(api.MaxSectors + 1), active(math.MaxInt), active(math.MinInt),
		draining(-1), draining(0), draining(api.Slots), draining(api.MaxSectors + 1), draining(math.MaxInt),
		removed(-1), removed(api.MaxSectors + 1), removed(math.MaxInt), removed(math.MinInt),
	}
	var all []roster.Roster
	for _, e := range bad {
		all = append(all, with(e), with(e, active(5), active(6)), with(active(5), active(6), e), with(active(5), draining(6), removed(7), e, active(5), active(5), active(5), active(5)))
	}
	for _, e := range []roster.Entry{active(10), draining(10), removed(0), {}} {
		all = append(all, with(slices.Repeat([]roster.Entry{e}, api.MaxDevices+1)...), with(slices.Repeat([]roster.Entry{e}, 300)...))
	}
	return all
}

// wantCode demands that err is this bare code.
func wantCode(t *testing.T, what string, err error, code api.Code) {
	t.Helper()
	var f *fault.Fault
	if err != error(code) || !errors.Is(err, code) || errors.As(err, &f) {
		t.Errorf("%s: %v, not %v", what, err, code)
	}
}

// wantRefused demands an error, and no roster beside it.
func wantRefused(t *testing.T, what string, r roster.Roster, err error, code api.Code) {
	t.Helper()
	wantCode(t, what, err, code)
	if len(r.List) != 0 {
		t.Errorf("%s tells %v beside an error", what, r)
	}
}

// wantRoster demands that a call told a roster of these entries.
func wantRoster(t *testing.T, what string, r roster.Roster, err error, entries ...roster.Entry) {
	t.Helper()
	if err != nil || !slices.Equal(r.List, entries) {
		t.Errorf("%s: %v, %v, not %v", what, r.List, err, entries)
	}
}

// change is a call that changes an entry, by its name.
type change struct {
	name string
	do   func(r roster.Roster, device int) (roster.Roster, error)
}

// changes are the calls that name a device and nothing else, and Grow to several sizes.
func changes() []change {
	all := []change{{"Drain", roster.Roster.Drain}, {"Cancel", roster.Roster.Cancel}, {"Remove", roster.Roster.Remove}}
	for _, size := range append(edges, 0, 4, 11, api.MaxSectors) {
		all = append(all, change{"Grow", func(r roster.Roster, device int) (roster.Roster, error) { return r.Grow(device, size) }})
	}
	return all
}

func TestP5Example(t *testing.T) {
	r, device, err := roster.Roster{}.Add(10)
	wantRoster(t, "Add", r, err, active(10))
	if device != 0 {
		t.Errorf("Add tells the device %d", device)
	}
	o, err := r.Drain(0)
	wantRefused(t, "Drain of the only one", o, err, api.ErrState)
	r, device, err = r.Add(5)
	wantRoster(t, "Add", r, err, active(10), active(5))
	if device != 1 {
		t.Errorf("Add tells the device %d", device)
	}
	r, err = r.Drain(0)
	wantRoster(t, "Drain", r, err, draining(10), active(5))
	o, err = r.Drain(1)
	wantRefused(t, "Drain of the other", o, err, api.ErrState)
	if r.Room() != 11 {
		t.Errorf("Room: %d, not 11", r.Room())
	}
	if b, err := r.Bytes(); err != nil || !bytes.Equal(b, []byte{2, 2, 0, 10, 1, 0, 5}) {
		t.Errorf("Bytes: %x, %v", b, err)
	}
}

func TestP5_1Right(t *testing.T) {
	for _, r := range []roster.Roster{
		{}, with([]roster.Entry{}...), {List: []roster.Entry{}}, eight(),
		with(active(api.Slots + 1)), with(active(api.MaxSectors)), with(draining(api.Slots + 1)), with(draining(api.MaxSectors)),
		with(removed(0)), with(removed(1)), with(removed(api.Slots)), with(removed(api.Slots + 1)), with(removed(api.MaxSectors)),
		with(slices.Repeat([]roster.Entry{active(10)}, api.MaxDevices)...), with(slices.Repeat([]roster.Entry{removed(0)}, api.MaxDevices)...),
		with(draining(10), draining(10)),
	} {
		if err := r.Check(); err != nil {
			t.Errorf("Check of %v: %v", r, err)
		}
		if !r.Same(r) {
			t.Errorf("%v is not the same as itself", r)
		}
	}
}

func TestP5_1NotRight(t *testing.T) {
	for _, r := range notRight() {
		wantCode(t, "Check", r.Check(), api.ErrForm)
		if t.Failed() {
			t.Fatalf("of %v", r)
		}
	}
}

func TestP5_1CallsOnRostersThatAreNotRight(t *testing.T) {
	for _, r := range notRight() {
		for _, size := range append(edges, 0, api.Slots, api.Slots+1, 10, api.MaxSectors) {
			o, device, err := r.Add(size)
			wantRefused(t, "Add", o, err, api.ErrForm)
			if device != 0 {
				t.Errorf("Add tells the device %d beside an error", device)
			}
		}
		for _, c := range changes() {
			for _, device := range append(edges, 0, 1, 2, 3, 7, 8, 9, len(r.List)) {
				o, err := c.do(r, device)
				wantRefused(t, c.name, o, err, api.ErrForm)
			}
		}
		b, err := r.Bytes()
		wantCode(t, "Bytes", err, api.ErrForm)
		if len(b) != 0 || len(r.Members()) != 0 || len(r.Actives()) != 0 || r.Room() != 0 {
			t.Errorf("%v tells %x, %v, %v, %d", r, b, r.Members(), r.Actives(), r.Room())
		}
		if t.Failed() {
			t.Fatalf("of %v", r)
		}
	}
}

func TestP5_1StateTellsAllTheSame(t *testing.T) {
	for _, r := range notRight() {
		for device, e := range r.List {
			if got := r.State(device); got != e.State {
				t.Fatalf("State(%d) of %v: %d", device, r, got)
			}
		}
		for _, device := range []int{math.MinInt, -1, len(r.List), len(r.List) + 1, math.MaxInt} {
			if got := r.State(device); got != api.Absent {
				t.Fatalf("State(%d) of %v: %d", device, r, got)
			}
		}
	}
}

func TestP5_1SameWithOneThatIsNotRight(t *testing.T) {
	for _, r := range notRight() {
		for _, o := range []roster.Roster{{}, with(active(10)), eight(), r} {
			if r.Same(o) || o.Same(r) {
				t.Errorf("%v is the same as %v", r, o)
			}
		}
	}
}

func TestP5_2Add(t *testing.T) {
	for _, size := range []int{api.Slots + 1, 10, 255, 256, api.MaxSectors - 1, api.MaxSectors} {
		var want []roster.Entry
		r := roster.Roster{}
		for number := range api.MaxDevices {
			o, device, err := r.Add(size)
			want = append(want, active(size))
			wantRoster(t, "Add", o, err, want...)
			if device != number {
				t.Errorf("Add tells the device %d, not %d", device, number)
			}
			r = o
		}
	}
}

func TestP5_2AddBehindOthers(t *testing.T) {
	r, device, err := with(removed(0), draining(9), removed(7)).Add(5)
	wantRoster(t, "Add", r, err, removed(0), draining(9), removed(7), active(5))
	if device != 3 {
		t.Errorf("Add tells the device %d, not 3", device)
	}
	seven := eight().List[:api.MaxDevices-1]
	r, device, err = with(seven...).Add(api.MaxSectors)
	wantRoster(t, "Add", r, err, append(seven, active(api.MaxSectors))...)
	if device != api.MaxDevices-1 {
		t.Errorf("Add tells the device %d", device)
	}
}

func TestP5_2AddRefused(t *testing.T) {
	for _, c := range []struct {
		r    roster.Roster
		code api.Code
		good api.Code
	}{
		{roster.Roster{}, api.ErrRange, 0},
		{with(active(10), removed(0)), api.ErrRange, 0},
		{with(eight().List[:api.MaxDevices-1]...), api.ErrRange, 0},
		{eight(), api.ErrMany, api.ErrMany},
		{with(slices.Repeat([]roster.Entry{removed(0)}, api.MaxDevices)...), api.ErrMany, api.ErrMany},
		{with(slices.Repeat([]roster.Entry{active(10)}, api.MaxDevices)...), api.ErrMany, api.ErrMany},
	} {
		for _, size := range append(edges, 0, 1, api.Slots) {
			r, device, err := c.r.Add(size)
			wantRefused(t, "Add", r, err, c.code)
			if device != 0 {
				t.Errorf("Add(%d) tells the device %d beside an error", size, device)
			}
		}
		for _, size := range []int{api.Slots + 1, api.MaxSectors} {
			r, device, err := c.r.Add(size)
			if c.good == 0 {
				wantRoster(t, "Add", r, err, append(slices.Clone(c.r.List), active(size))...)
				continue
			}
			wantRefused(t, "Add", r, err, c.good)
			if device != 0 {
				t.Errorf("Add(%d) tells the device %d beside an error", size, device)
			}
		}
	}
}

func TestP5_2NoSuchEntry(t *testing.T) {
	for _, r := range []roster.Roster{{}, with(active(10)), with(removed(0), active(10), draining(5)), eight()} {
		for _, c := range changes() {
			for _, device := range append(edges, len(r.List), len(r.List)+1, 9) {
				o, err := c.do(r, device)
				wantRefused(t, c.name, o, err, api.ErrDevice)
			}
		}
	}
}

func TestP5_2Grow(t *testing.T) {
	for _, c := range []struct{ device, size int }{
		{0, 11}, {0, 256}, {0, api.MaxSectors}, {1, 301}, {1, api.MaxSectors}, {3, 4}, {3, api.MaxSectors - 1},
	} {
		want := eight().List
		want[c.device].Size = c.size
		r, err := eight().Grow(c.device, c.size)
		wantRoster(t, "Grow", r, err, want...)
	}
}

func TestP5_2GrowRefused(t *testing.T) {
	for _, c := range []struct {
		device int
		sizes  []int
		code   api.Code
	}{
		{0, []int{10, 9, api.Slots + 1, api.Slots, 0}, api.ErrRange},
		{1, []int{300, 299, 44, 0}, api.ErrRange},
		{3, []int{3, 2, 0}, api.ErrRange},
		{5, []int{api.MaxSectors, api.MaxSectors - 1, 3, 0}, api.ErrRange},
		{6, []int{api.MaxSectors, api.MaxSectors - 1, 3, 0}, api.ErrRange},
		{2, []int{0, 1, 2, 3, 10, api.MaxSectors}, api.ErrState},
		{4, []int{0, 3, 10, api.MaxSectors}, api.ErrState},
		{7, []int{0, 2, 3, 10, api.MaxSectors}, api.ErrState},
	} {
		for _, size := range append(c.sizes, edges...) {
			r, err := eight().Grow(c.device, size)
			wantRefused(t, "Grow", r, err, c.code)
		}
	}
}

func TestP5_2Drain(t *testing.T) {
	for device, e := range eight().List {
		r, err := eight().Drain(device)
		if e.State != api.Active {
			wantRefused(t, "Drain", r, err, api.ErrState)
			continue
		}
		want := eight().List
		want[device].State = api.Draining
		wantRoster(t, "Drain", r, err, want...)
	}
	r, err := with(active(10), active(3)).Drain(1)
	wantRoster(t, "Drain", r, err, active(10), draining(3))
}

func TestP5_2DrainOfTheLastActiveOne(t *testing.T) {
	for _, r := range []roster.Roster{
		with(active(10)), with(active(10), draining(9)), with(draining(9), active(10)), with(removed(9), active(10), removed(0)),
		with(draining(9), removed(0), draining(9), active(10), draining(9)),
		with(draining(9)), with(removed(9)), with(draining(9), draining(9)), with(draining(9), removed(9)),
	} {
		for device := range r.List {
			o, err := r.Drain(device)
			wantRefused(t, "Drain", o, err, api.ErrState)
		}
	}
}

func TestP5_2DrainTillOneIsActive(t *testing.T) {
	r := with(slices.Repeat([]roster.Entry{active(10)}, api.MaxDevices)...)
	for device := range api.MaxDevices - 1 {
		o, err := r.Drain(device)
		if err != nil {
			t.Fatalf("Drain(%d): %v", device, err)
		}
		r = o
	}
	o, err := r.Drain(api.MaxDevices - 1)
	wantRefused(t, "Drain", o, err, api.ErrState)
	if !slices.Equal(r.Actives(), []int{api.MaxDevices - 1}) {
		t.Errorf("Actives: %v", r.Actives())
	}
}

func TestP5_2CancelAndRemove(t *testing.T) {
	for _, c := range []struct {
		change
		to int
	}{{change{"Cancel", roster.Roster.Cancel}, api.Active}, {change{"Remove", roster.Roster.Remove}, api.Removed}} {
		for _, r := range []roster.Roster{eight(), with(draining(10)), with(draining(10), draining(3)), with(active(10)), with(removed(0))} {
			for device, e := range r.List {
				o, err := c.do(r, device)
				if e.State != api.Draining {
					wantRefused(t, c.name, o, err, api.ErrState)
					continue
				}
				want := slices.Clone(r.List)
				want[device].State = c.to
				wantRoster(t, c.name, o, err, want...)
			}
		}
	}
}

func TestP5_2StatesOneAfterTheOther(t *testing.T) {
	r := with(active(10), active(5))
	step := func(c change, device, state int) {
		t.Helper()
		o, err := c.do(r, device)
		if err != nil || o.State(device) != state || o.Check() != nil {
			t.Fatalf("%s(%d): %v, %v", c.name, device, o, err)
		}
		r = o
	}
	drain, cancel, remove := changes()[0], changes()[1], changes()[2]
	step(drain, 0, api.Draining)
	step(cancel, 0, api.Active)
	step(drain, 1, api.Draining)
	step(cancel, 1, api.Active)
	step(drain, 0, api.Draining)
	step(change{"Grow", func(r roster.Roster, device int) (roster.Roster, error) { return r.Grow(device, 12) }}, 0, api.Draining)
	step(remove, 0, api.Removed)
	for _, c := range changes() {
		o, err := c.do(r, 0)
		wantRefused(t, c.name, o, err, api.ErrState)
	}
	wantRoster(t, "all of it", r, nil, removed(12), active(5))
}

func TestP5_3State(t *testing.T) {
	r := eight()
	for device, e := range r.List {
		if r.State(device) != e.State {
			t.Errorf("State(%d): %d, not %d", device, r.State(device), e.State)
		}
	}
	for _, r := range []roster.Roster{{}, with(active(10)), r} {
		for _, device := range append(edges, len(r.List), len(r.List)+1) {
			if r.State(device) != api.Absent {
				t.Errorf("State(%d) of %v: %d", device, r, r.State(device))
			}
		}
	}
}

func TestP5_3MembersActivesAndRoom(t *testing.T) {
	for _, c := range []struct {
		r                roster.Roster
		members, actives []int
		room             int
	}{
		{roster.Roster{}, nil, nil, 0},
		{with(removed(10), removed(0)), nil, nil, 0},
		{with(active(3)), []int{0}, []int{0}, 1},
		{with(draining(3)), []int{0}, nil, 1},
		{with(draining(10), active(5)), []int{0, 1}, []int{1}, 11},
		{with(removed(10), draining(5), removed(0), active(4), draining(api.MaxSectors)), []int{1, 3, 4}, []int{3}, 3 + 2 + 4094},
		{eight(), []int{0, 1, 3, 5, 6}, []int{0, 3, 6}, 8 + 298 + 1 + 4094 + 4094},
		{with(slices.Repeat([]roster.Entry{active(api.MaxSectors)}, api.MaxDevices)...), []int{0, 1, 2, 3, 4, 5, 6, 7}, []int{0, 1, 2, 3, 4, 5, 6, 7}, 8 * 4094},
	} {
		if got := c.r.Members(); !slices.Equal(got, c.members) {
			t.Errorf("Members of %v: %v, not %v", c.r, got, c.members)
		}
		if got := c.r.Actives(); !slices.Equal(got, c.actives) {
			t.Errorf("Actives of %v: %v, not %v", c.r, got, c.actives)
		}
		if got := c.r.Room(); got != c.room {
			t.Errorf("Room of %v: %d, not %d", c.r, got, c.room)
		}
	}
}

// written are rosters with their bytes.
var written = []struct {
	entries []roster.Entry
	bytes   []byte
}{
	{nil, []byte{0}},
	{[]roster.Entry{removed(0)}, []byte{1, 3, 0, 0}},
	{[]roster.Entry{active(api.Slots + 1)}, []byte{1, 1, 0, 3}},
	{[]roster.Entry{draining(255)}, []byte{1, 2, 0, 255}},
	{[]roster.Entry{active(256), active(258)}, []byte{2, 1, 1, 0, 1, 1, 2}},
	{[]roster.Entry{active(api.MaxSectors), removed(api.MaxSectors)}, []byte{2, 1, 16, 0, 3, 16, 0}},
	{eight().List, []byte{8, 1, 0, 10, 2, 1, 44, 3, 0, 0, 1, 0, 3, 3, 16, 0, 2, 16, 0, 1, 16, 0, 3, 0, 2}},
}

func TestP5_4Bytes(t *testing.T) {
	for _, c := range written {
		if b, err := with(c.entries...).Bytes(); err != nil || !bytes.Equal(b, c.bytes) {
			t.Errorf("Bytes of %v: %x, %v, not %x", c.entries, b, err, c.bytes)
		}
	}
}

func TestP5_4Parse(t *testing.T) {
	for _, c := range written {
		for _, behind := range [][]byte{nil, {0}, {9}, {1, 0, 3}, bytes.Repeat([]byte{255}, 1000)} {
			r, n, err := roster.Parse(slices.Concat(c.bytes, behind))
			wantRoster(t, "Parse", r, err, c.entries...)
			if n != len(c.bytes) {
				t.Errorf("Parse of %x and %d more: %d bytes", c.bytes, len(behind), n)
			}
		}
	}
}

// wantUnread demands that bytes are not those of a right roster.
func wantUnread(t *testing.T, b []byte) {
	t.Helper()
	r, n, err := roster.Parse(b)
	wantRefused(t, "Parse", r, err, api.ErrForm)
	if n != 0 {
		t.Errorf("Parse of %x tells %d bytes beside an error", b, n)
	}
}

func TestP5_4ParseOfWhatIsCutOff(t *testing.T) {
	wantUnread(t, nil)
	wantUnread(t, []byte{})
	for _, c := range written {
		for n := range c.bytes {
			wantUnread(t, c.bytes[:n])
		}
	}
}

func TestP5_4ParseOfTooMany(t *testing.T) {
	for _, e := range [][]byte{{1, 0, 10}, {3, 0, 0}} {
		for count := range 256 {
			b := append([]byte{byte(count)}, bytes.Repeat(e, 256)...)
			if count > api.MaxDevices {
				wantUnread(t, b)
			} else if r, n, err := roster.Parse(b); err != nil || len(r.List) != count || n != 1+3*count {
				t.Errorf("Parse of %d entries: %v, %d, %v", count, r, n, err)
			}
			if count > 0 {
				wantUnread(t, append([]byte{byte(count)}, bytes.Repeat(e, count-1)...))
			}
		}
	}
}

// wantEntry demands that the bytes of one entry are read, if it is right, whatever stands behind them.
func wantEntry(t *testing.T, state, size int) {
	t.Helper()
	r, n, err := roster.Parse([]byte{1, byte(state), byte(size >> 8), byte(size), 7})
	least := api.Slots + 1
	if state == api.Removed {
		least = 0
	}
	want := 4
	if state < api.Active || state > api.Removed || size < least || size > api.MaxSectors {
		want = 0
		wantRefused(t, "Parse", r, err, api.ErrForm)
	} else {
		wantRoster(t, "Parse", r, err, roster.Entry{State: state, Size: size})
	}
	if n != want {
		t.Errorf("Parse tells %d bytes, not %d", n, want)
	}
	if t.Failed() {
		t.Fatalf("at the state %d and the size %d", state, size)
	}
}

func TestP5_4ParseOfEntriesThatAreNotRight(t *testing.T) {
	for state := range 256 {
		for _, size := range []int{0, 1, 2, 3, 255, 256, 4095, 4096, 4097, 8192, 32768, 65535} {
			wantEntry(t, state, size)
		}
	}
	for size := range 1 << 16 {
		for state := api.Active; state <= api.Removed; state++ {
			wantEntry(t, state, size)
		}
	}
	for _, e := range [][]byte{{0, 0, 10}, {4, 0, 10}, {1, 0, 2}, {2, 0, 2}, {3, 16, 1}} {
		wantUnread(t, slices.Concat([]byte{3}, e, []byte{1, 0, 10, 1, 0, 10}))
		wantUnread(t, slices.Concat([]byte{3, 1, 0, 10}, e, []byte{1, 0, 10}))
		wantUnread(t, slices.Concat([]byte{3, 1, 0, 10, 1, 0, 10}, e))
	}
}

func TestP5_4Same(t *testing.T) {
	all := []roster.Roster{
		{}, with(active(10)), with(draining(10)), with(removed(10)), with(active(11)), with(removed(0)),
		with(active(10), active(10)), with(active(10), draining(5)), with(draining(5), active(10)), with(active(10), draining(6)), with(active(10), active(5)),
		with(active(10), draining(5), removed(0)), eight(), with(eight().List[1:]...), with(eight().List[:7]...),
	}
	for i, r := range all {
		for j, o := range all {
			o = with(slices.Clone(o.List)...)
			if r.Same(o) != (i == j) {
				t.Errorf("Same of %v and %v: %t", r, o, r.Same(o))
			}
		}
	}
	if !(roster.Roster{}).Same(roster.Roster{List: []roster.Entry{}}) || !(roster.Roster{List: []roster.Entry{}}).Same(roster.Roster{}) {
		t.Error("nil and empty lists are not the same")
	}
}

// spare is what stands in the spare room of a list.
var spare = roster.Entry{State: 77, Size: 77}

// roomy is a roster with spare room behind its entries, and all of that memory.
func roomy(r roster.Roster) (roster.Roster, []roster.Entry) {
	all := append(slices.Clone(r.List), slices.Repeat([]roster.Entry{spare}, 20)...)
	return roster.Roster{List: all[:len(r.List)]}, all
}

// overwrite writes over a list and its spare room.
func overwrite[T any](list []T, with T) {
	list = list[:cap(list)]
	for i := range list {
		list[i] = with
	}
}

// tellers are calls that tell a roster, each right for the roster of entries, and what they tell.
func tellers(t *testing.T) []func(r roster.Roster) []roster.Entry {
	told := func(r roster.Roster, err error) []roster.Entry {
		t.Helper()
		if err != nil {
			t.Errorf("a call that is right tells %v", err)
		}
		return r.List
	}
	return []func(r roster.Roster) []roster.Entry{
		func(r roster.Roster) []roster.Entry { o, _, err := r.Add(9); return told(o, err) },
		func(r roster.Roster) []roster.Entry { return told(r.Grow(1, 400)) },
		func(r roster.Roster) []roster.Entry { return told(r.Drain(0)) },
		func(r roster.Roster) []roster.Entry { return told(r.Cancel(1)) },
		func(r roster.Roster) []roster.Entry { return told(r.Remove(1)) },
	}
}

func TestP5_5RostersHandedIn(t *testing.T) {
	r, whole := roomy(with(active(10), draining(300), removed(0), active(3)))
	before := slices.Clone(whole)
	for i, tell := range tellers(t) {
		first, second := tell(r), tell(r)
		want := slices.Clone(second)
		if !slices.Equal(whole, before) {
			t.Fatalf("call %d changes what is handed in: %v", i, whole)
		}
		overwrite(first, spare)
		if !slices.Equal(second, want) {
			t.Errorf("two answers of call %d share memory", i)
		}
		if !slices.Equal(whole, before) {
			t.Fatalf("an answer of call %d shares memory with what is handed in", i)
		}
		overwrite(whole, roster.Entry{})
		if !slices.Equal(second, want) {
			t.Errorf("call %d tells what is handed in: %v", i, second)
		}
		copy(whole, before)
	}
}

func TestP5_5RefusalsChangeNothing(t *testing.T) {
	for _, o := range append(notRight(), eight(), with(active(10))) {
		r, whole := roomy(o)
		before := slices.Clone(whole)
		for _, device := range []int{-1, 0, 1, 2, 7, 8} {
			for _, c := range changes() {
				c.do(r, device)
			}
			r.Add(device)
			r.State(device)
		}
		r.Check()
		r.Room()
		r.Bytes()
		r.Members()
		r.Actives()
		r.Same(r)
		if !slices.Equal(whole, before) {
			t.Fatalf("what is handed in is changed: %v", whole)
		}
	}
}

func TestP5_5SameHandsNothingOn(t *testing.T) {
	r, all := roomy(eight())
	o, others := roomy(eight())
	before := slices.Clone(all)
	if !r.Same(o) || !slices.Equal(all, before) || !slices.Equal(others, before) {
		t.Errorf("Same changes %v or %v", all, others)
	}
	others[7].Size = 1
	if r.Same(o) {
		t.Error("Same tells what was")
	}
}

func TestP5_5ListsOfNumbersAreNew(t *testing.T) {
	r := eight()
	for _, c := range []struct {
		name string
		tell func() []int
		want []int
	}{{"Members", r.Members, []int{0, 1, 3, 5, 6}}, {"Actives", r.Actives, []int{0, 3, 6}}} {
		first, second := c.tell(), c.tell()
		overwrite(first, -7)
		if !slices.Equal(second, c.want) || !slices.Equal(c.tell(), c.want) {
			t.Errorf("two answers of %s share memory: %v", c.name, second)
		}
	}
	members, actives := r.Members(), r.Actives()
	overwrite(r.List, removed(0))
	if !slices.Equal(members, []int{0, 1, 3, 5, 6}) || !slices.Equal(actives, []int{0, 3, 6}) {
		t.Errorf("what was told is changed: %v, %v", members, actives)
	}
}

func TestP5_5BytesAreNew(t *testing.T) {
	r, whole := roomy(eight())
	want := written[len(written)-1].bytes
	first, err := r.Bytes()
	if err != nil {
		t.Fatal(err)
	}
	second, err := r.Bytes()
	if err != nil {
		t.Fatal(err)
	}
	overwrite(first, '!')
	overwrite(whole, spare)
	if !bytes.Equal(second, want) {
		t.Errorf("what was told is changed: %x", second)
	}
}

func TestP5_5BytesHandedIn(t *testing.T) {
	whole := append(slices.Clone(written[len(written)-1].bytes), bytes.Repeat([]byte{'~'}, 100)...)
	before := slices.Clone(whole)
	b := whole[:25]
	first, _, err := roster.Parse(b)
	wantRoster(t, "Parse", first, err, eight().List...)
	second, _, err := roster.Parse(b)
	wantRoster(t, "Parse", second, err, eight().List...)
	if !bytes.Equal(whole, before) {
		t.Errorf("what is handed in is changed: %x", whole)
	}
	overwrite(first.List, spare)
	overwrite(whole, '!')
	wantRoster(t, "Parse", second, nil, eight().List...)
}
