package mover_test

import (
	"bytes"
	"crypto/sha256"
	"fmt"
	"math"
	"reflect"
	"slices"
	"testing"

	"portage/api"
	"portage/bank"
	"portage/dirty"
	"portage/fault"
	"portage/mover"
	"portage/refs"
	"portage/roster"
	"portage/space"
	"portage/thin"
)

// edges are numbers at the ends of what devices and addresses may be, and past them.
var edges = []int{math.MinInt, math.MinInt + 1, math.MinInt32, -4097, -4096, -9, -8, -2, -1, 0, 1, 2, 7, 8, 9, 4095, 4096, 4097, 4098, 32767, 32768, 32769, math.MaxInt32, 1 << 32, 1 << 40, 1 << 62, math.MaxInt - 1, math.MaxInt}

// world is a manager, its bank, and a mover of theirs, if there is one.
type world struct {
	*testing.T
	b *bank.Bank
	m *thin.Manager
	v *mover.Mover
}

// must demands that a call is not refused.
func must(t *testing.T, what string, err error) {
	t.Helper()
	if err != nil {
		t.Fatalf("%s: %v", what, err)
	}
}

// wantError demands that err is just this one: the same faults around the same code.
func wantError(t *testing.T, what string, err, want error) {
	t.Helper()
	if !reflect.DeepEqual(err, want) {
		t.Fatalf("%s: %v, not %v", what, err, want)
	}
}

// broken is the fault of a read or a write at an address.
func broken(op string, addr int, code api.Code) error {
	device, sector := space.At(addr)
	return fault.Wrap(op, device, sector, code)
}

// made is a manager over Active devices of so many sectors.
func made(t *testing.T, sizes ...int) *world {
	t.Helper()
	b := bank.New()
	var r roster.Roster
	for _, size := range sizes {
		_, err := b.Add(size)
		must(t, "Add", err)
		r.List = append(r.List, roster.Entry{State: api.Active, Size: size})
	}
	m, err := thin.New(b, r)
	must(t, "New", err)
	return &world{T: t, b: b, m: m}
}

// of are blocks, each with bytes of its own.
func of(list ...int) []byte {
	var data []byte
	for _, c := range list {
		for i := range api.Sector {
			data = append(data, byte(c*(i+1)+c>>8))
		}
	}
	return data
}

// span are so many numbers, from one on.
func span(from, count int) []int {
	var list []int
	for i := range count {
		list = append(list, from+i)
	}
	return list
}

// turn lets the space have a roster in which a device has a state.
func (w *world) turn(device, state int) {
	w.Helper()
	r := w.m.Space().Roster()
	r.List[device].State = state
	must(w.T, "Turn", w.m.Turn(r))
}

// leave lets a device be Draining, and have a mover.
func (w *world) leave(device int) {
	w.Helper()
	w.turn(device, api.Draining)
	v, err := mover.New(w.m, w.b, device)
	must(w.T, "New", err)
	w.v = v
}

// create lets a volume be there, with what is of these numbers from its first block on.
func (w *world) create(id, size int, list ...int) {
	w.Helper()
	must(w.T, "Create", w.m.Create(id, size))
	for at := 0; at < len(list); at += api.MaxRun {
		must(w.T, "Write", w.m.Write(id, at, of(list[at:min(at+api.MaxRun, len(list))]...)))
	}
}

// step demands that the next steps do just this.
func (w *world) step(list ...int) {
	w.Helper()
	for _, want := range list {
		did, err := w.v.Step()
		if did != want || err != nil {
			w.Fatalf("Step: %d, %v, not %d", did, err, want)
		}
	}
}

// enough is more than all steps, and all writes of one, that these tests need.
const enough = 1000

// all does steps till the device is left, and has a look behind each.
func (w *world) all(look func()) {
	w.Helper()
	for range enough {
		did, err := w.v.Step()
		must(w.T, "Step", err)
		look()
		if did == mover.Empty {
			return
		}
	}
	w.Fatal("the device is never left")
}

// at is what stands at an address.
func (w *world) at(addr int) []byte {
	w.Helper()
	data, err := w.b.Read(space.At(addr))
	must(w.T, "Read", err)
	return data
}

// lay writes what is of a number at an address.
func (w *world) lay(addr, c int) {
	w.Helper()
	device, sector := space.At(addr)
	must(w.T, "Write", w.b.Write(device, sector, of(c)))
}

// want demands that blocks from one on have what is of these numbers.
func (w *world) want(id, block int, list ...int) {
	w.Helper()
	for i, c := range list {
		data, err := w.m.Read(id, block+i, 1)
		must(w.T, "Read", err)
		if !bytes.Equal(data, of(c)) {
			w.Fatalf("the block %d of %d is not of %d", block+i, id, c)
		}
	}
}

// wantRegion demands that this is the region that is being copied.
func (w *world) wantRegion(list ...dirty.Entry) {
	w.Helper()
	if got := w.v.Region(); !slices.Equal(got, list) {
		w.Fatalf("Region: %v, not %v", got, list)
	}
}

// wantStates demands that the entries of the region have these states.
func (w *world) wantStates(list ...int) {
	w.Helper()
	var states []int
	for _, e := range w.v.Region() {
		states = append(states, e.State)
	}
	if !slices.Equal(states, list) {
		w.Fatalf("the states are %v, not %v", states, list)
	}
}

// wantLeft demands that there are so many addresses of blocks and pages on the device.
func (w *world) wantLeft(data, pages int) {
	w.Helper()
	if d, p := w.v.Left(); d != data || p != pages {
		w.Fatalf("Left: %d, %d, not %d, %d", d, p, data, pages)
	}
}

// on are those of these addresses that are on a device.
func on(device int, addrs []int) []int {
	return slices.DeleteFunc(slices.Clone(addrs), func(addr int) bool { return addr/api.MaxSectors != device })
}

// block is where a block is, and what Read tells of it, the bytes as a digest.
type block struct {
	Addr int
	Data string
	Err  error
}

// told is all that a manager and its mover tell.
type told struct {
	List        []thin.Info
	Blocks      map[refs.Owner]block
	Data, Pages []int
	Root        int
	Roster      roster.Roster
	// On and Free are of each device, Free the addresses that are neither taken nor given back.
	On, Free [][]int
	Count    int
	Region   []dirty.Entry
	// Left is of data and of pages.
	Left   [2]int
	Device int
}

// volumes is what is told of the volumes alone.
func (w *world) volumes() told {
	x := told{List: w.m.List(), Blocks: map[refs.Owner]block{}, Data: w.m.Data(), Pages: w.m.Pages(), Root: w.m.Root(), Roster: w.m.Space().Roster()}
	for _, addr := range x.Data {
		for _, o := range w.m.Owners(addr) {
			data, err := w.m.Read(o.Vol, o.Block, 1)
			x.Blocks[o] = block{w.m.Map(o.Vol, o.Block), fmt.Sprintf("%.6x", sha256.Sum256(data)), err}
		}
	}
	return x
}

// tells is all that is told.
func (w *world) tells() told {
	w.Helper()
	x, s := w.volumes(), w.m.Space()
	x.Count = s.Free()
	for device, e := range x.Roster.List {
		x.On = append(x.On, s.On(device))
		x.Free = append(x.Free, w.free(device, e.Size))
	}
	if w.v != nil {
		// A list of nothing is nil here, as what nobody tells.
		x.Region, x.Device = append(x.Region, w.v.Region()...), w.v.Device()
		x.Left[0], x.Left[1] = w.v.Left()
	}
	return x
}

// free are the addresses of a device that are neither taken nor given back.
func (w *world) free(device, size int) []int {
	s := w.m.Space()
	var list []int
	for sector := api.Slots; sector < size; sector++ {
		if addr := space.Addr(device, sector); s.Mark(addr) == nil {
			must(w.T, "Unmark", s.Unmark(addr))
			list = append(list, addr)
		}
	}
	return list
}

// isFree tells whether an address is neither taken nor given back.
func (w *world) isFree(addr int) bool {
	device, sector := space.At(addr)
	return slices.Contains(w.free(device, sector+1), addr)
}

// wantSame demands that nothing that is told has changed.
func wantSame(t *testing.T, what string, got, want told) {
	t.Helper()
	if !reflect.DeepEqual(got, want) {
		t.Fatalf("%s: %+v, not %+v", what, got, want)
	}
}

// wantOwn demands that what is taken in the space are just Data, Pages and the region's To.
func (w *world) wantOwn() {
	w.Helper()
	all := slices.Concat(w.m.Data(), w.m.Pages())
	for _, e := range w.v.Region() {
		all = append(all, e.To)
	}
	var taken []int
	for device := range w.m.Space().Roster().List {
		taken = append(taken, w.m.Space().On(device)...)
	}
	slices.Sort(all)
	if !slices.Equal(all, taken) {
		w.Fatalf("%v are taken, not %v", taken, all)
	}
}

// fails demands that a step tells this error, and changes nothing.
func (w *world) fails(what string, want error) {
	w.Helper()
	before := w.tells()
	did, err := w.v.Step()
	wantError(w.T, what, err, want)
	if did != 0 {
		w.Fatalf("%s: Step tells %d beside an error", what, did)
	}
	wantSame(w.T, what, w.tells(), before)
}

// keep brings the power back, and keeps all that was written.
func (w *world) keep() {
	picks := make([]int, w.b.Pending())
	for i := range picks {
		picks[i] = math.MaxInt
	}
	w.b.Crash(picks...)
}

// TestExample is the chapter's: one block on the device, with pages there and without.
func TestExample(t *testing.T) {
	w := made(t, 20, 20)
	w.create(1, 9, 5)
	if device := w.m.Map(1, 0) / api.MaxSectors; device != 0 {
		t.Fatalf("the block is on the device %d", device)
	}
	w.leave(0)
	w.wantLeft(1, 0)
	w.step(1, 2, 3, 4, 6, 6)
	w.want(1, 0, 5)

	w = paged(t)
	w.wantLeft(1, 2)
	w.step(1, 2, 3, 4, 5, 6, 6)
	w.want(1, 0, 5)
	w.want(2, 0, 6)
	w.wantOwn()
}

// paged has one block on the device that is left, and two pages, of which just one names that block.
func paged(t *testing.T) *world {
	t.Helper()
	w := made(t, 20, 19)
	w.create(1, 9, 5)
	w.create(2, 9, 6)
	w.leave(0)
	return w
}

// TestStepNames demands that the names are the chapter's numbers.
func TestStepNames(t *testing.T) {
	got := []int{mover.Planned, mover.Read, mover.Wrote, mover.Swapped, mover.Moved, mover.Empty}
	if !slices.Equal(got, []int{1, 2, 3, 4, 5, 6}) {
		t.Fatalf("the names are %v", got)
	}
}

// wantNoMover demands that there is no mover of a device, and that nothing is changed by asking.
func (w *world) wantNoMover(device int) {
	w.Helper()
	before := w.tells()
	v, err := mover.New(w.m, w.b, device)
	wantError(w.T, fmt.Sprint("New of ", device), err, api.ErrState)
	if v != nil {
		w.Fatalf("New of %d tells a mover beside an error", device)
	}
	wantSame(w.T, "New", w.tells(), before)
}

// wantMover demands that there is a mover of a device, which copies nothing yet, and that nothing is changed by asking.
func (w *world) wantMover(device int) {
	w.Helper()
	w.v = nil
	before, done := w.tells(), w.b.Done()
	v, err := mover.New(w.m, w.b, device)
	must(w.T, "New", err)
	wantSame(w.T, "New", w.tells(), before)
	if v.Device() != device || len(v.Region()) != 0 || w.b.Done() != done {
		w.Fatalf("New of %d: a mover of %d that copies %v", device, v.Device(), v.Region())
	}
}

// TestP18_1New has devices in each state: two that are Active, one that is Draining, one that is Removed, and none behind these.
func TestP18_1New(t *testing.T) {
	w := made(t, 20, 20, 20, 20)
	w.create(1, 9, 1, 2, 3, 4)
	for device := range 4 {
		w.wantNoMover(device)
	}
	w.turn(1, api.Draining)
	w.wantMover(1)
	w.wantNoMover(0)
	w.wantNoMover(2)
	w.leave(1)
	w.all(func() {})
	w.m.Settle()
	w.turn(1, api.Removed)
	w.turn(2, api.Draining)
	w.wantNoMover(0)
	w.wantNoMover(1)
	w.wantMover(2)
	w.wantNoMover(3)
	for _, device := range append(span(4, 6), edges...) {
		if device < 0 || device > 3 {
			w.wantNoMover(device)
		}
	}
	// What is asked is the space's roster as it is now.
	w.turn(2, api.Active)
	w.wantNoMover(2)
	w.turn(0, api.Draining)
	w.turn(3, api.Draining)
	w.wantMover(0)
	w.wantMover(3)
}

// TestP18_1Begun demands that a second mover of one device has a log of its own.
func TestP18_1Begun(t *testing.T) {
	w := made(t, 40, 40)
	w.create(1, 9, 1, 2, 3)
	w.leave(0)
	w.step(mover.Planned, mover.Read)
	w.wantMover(0)
}

func TestP18_4Left(t *testing.T) {
	w := made(t, 100, 40)
	w.create(1, 20, span(1, 6)...)
	w.create(2, 20, 9)
	w.leave(0)
	count := func() {
		t.Helper()
		data, pages := on(0, w.m.Data()), on(0, w.m.Pages())
		w.wantLeft(len(data), len(pages))
		if w.v.Device() != 0 {
			t.Fatalf("Device: %d", w.v.Device())
		}
	}
	count()
	w.wantLeft(7, 2)
	w.wantRegion()
	w.step(mover.Planned)
	// What was taken for copies is no block's yet.
	w.wantLeft(7, 2)
	w.wantStates(0, 0, 0, 0)
	w.step(mover.Read)
	w.wantLeft(7, 2)
	w.wantStates(1, 0, 0, 0)
	w.step(mover.Wrote)
	w.wantLeft(7, 2)
	w.wantStates(2, 0, 0, 0)
	w.step(mover.Read, mover.Wrote, mover.Read, mover.Wrote, mover.Read, mover.Wrote)
	w.wantLeft(7, 2)
	w.wantStates(2, 2, 2, 2)
	w.step(mover.Swapped)
	w.wantRegion()
	w.wantLeft(3, 1)
	count()
	// The second region has what is left.
	w.step(mover.Planned)
	w.wantStates(0, 0, 0)
	must(t, "Discard", w.m.Discard(1, 4, 2))
	w.wantLeft(1, 1)
	count()
	w.v.Prune()
	w.wantStates(0)
	w.step(mover.Read, mover.Wrote, mover.Swapped, mover.Empty)
	w.wantLeft(0, 0)
	w.wantRegion()
	count()

	w = paged(t)
	w.step(1, 2, 3, 4)
	w.wantLeft(0, 1)
	w.step(mover.Moved)
	w.wantLeft(0, 0)
}

// TestP18_4Device leaves devices with other numbers.
func TestP18_4Device(t *testing.T) {
	for device := range 3 {
		w := made(t, 40, 40, 40)
		w.create(1, 30, span(1, 30)...)
		w.leave(device)
		data, pages := len(on(device, w.m.Data())), len(on(device, w.m.Pages()))
		if data < 5 || pages == 0 {
			t.Fatalf("%d blocks and %d pages are on the device", data, pages)
		}
		w.wantLeft(data, pages)
		w.all(func() {
			if w.v.Device() != device {
				t.Fatalf("Device: %d, not %d", w.v.Device(), device)
			}
			w.wantLeft(len(on(device, w.m.Data())), len(on(device, w.m.Pages())))
		})
		w.wantLeft(0, 0)
		w.want(1, 0, span(1, 30)...)
		w.wantOwn()
	}
}
