package pages_test

import (
	"bytes"
	"encoding/binary"
	"errors"
	"hash/crc32"
	"maps"
	"math"
	"reflect"
	"slices"
	"testing"

	"portage/api"
	"portage/bank"
	"portage/fault"
	"portage/node"
	"portage/pages"
	"portage/roster"
	"portage/space"
)

// levels is the greatest Level of a right node, most how many keys it has at most.
const (
	levels = 20
	most   = 7
)

// nowhere are numbers that are no address of a device that there is in these tests.
var nowhere = []int{math.MinInt, math.MinInt + 1, math.MinInt32, -api.MaxSectors, -7, -2, -1, api.MaxDevices * api.MaxSectors, api.MaxDevices*api.MaxSectors + 2, math.MaxInt32, 1 << 32, 1<<32 + 2, 1 << 61, math.MaxInt - 1, math.MaxInt}

// world is a store with its bank and its space.
type world struct {
	*testing.T
	b *bank.Bank
	s *space.Space
	p *pages.Store
}

// banked is a bank with devices of so many sectors.
func banked(t *testing.T, sizes ...int) *bank.Bank {
	t.Helper()
	b := bank.New()
	for _, size := range sizes {
		_, err := b.Add(size)
		must(t, "Add", err)
	}
	return b
}

// rostered is a roster of Active devices of so many sectors.
func rostered(sizes ...int) roster.Roster {
	var r roster.Roster
	for _, size := range sizes {
		r.List = append(r.List, roster.Entry{State: api.Active, Size: size})
	}
	return r
}

// over is a store that knows no page, over this bank and a space of its own.
func over(t *testing.T, b *bank.Bank, r roster.Roster) *world {
	t.Helper()
	s, err := space.New(r)
	must(t, "space.New", err)
	return &world{t, b, s, pages.New(b, s)}
}

// made is a store over new devices of so many sectors.
func made(t *testing.T, sizes ...int) *world {
	t.Helper()
	return over(t, banked(t, sizes...), rostered(sizes...))
}

// another is a store that knows no page, over the same bank, with a space of its own of the same roster.
func (w *world) another() *world {
	w.Helper()
	return over(w.T, w.b, w.s.Roster())
}

// must demands that a call is not refused.
func must(t *testing.T, what string, err error) {
	t.Helper()
	if err != nil {
		t.Fatalf("%s: %v", what, err)
	}
}

// wantError demands that err is just this one: the same faults around the same code.
func wantError(t *testing.T, what string, err, want error) {
	t.Helper()
	if !reflect.DeepEqual(err, want) {
		t.Fatalf("%s: %v, not %v", what, err, want)
	}
	if code, ok := fault.CodeOf(want); ok && !errors.Is(err, code) {
		t.Fatalf("%s: errors.Is finds no %v in %v", what, code, err)
	}
}

// inPage is a fault "page" around an error.
func inPage(addr int, err error) error {
	device, sector := space.At(addr)
	return fault.Wrap("page", device, sector, err)
}

// broken is the fault that a call of a bank at an address tells, within a page's.
func broken(op string, addr int, code api.Code) error {
	device, sector := space.At(addr)
	return inPage(addr, fault.Wrap(op, device, sector, code))
}

// numbered is a node with the keys 10, 20, .., and these values.
func numbered(level int, vals ...int) node.Node {
	n := node.Node{Level: level, Vals: slices.Clone(vals)}
	for i := range vals {
		n.Keys = append(n.Keys, 10*(i+1))
	}
	return n
}

// leaf is a node of the Level 0.
func leaf(vals ...int) node.Node { return numbered(0, vals...) }

// equal tells whether two nodes have the same in them.
func equal(n, o node.Node) bool {
	return n.Level == o.Level && slices.Equal(n.Keys, o.Keys) && slices.Equal(n.Vals, o.Vals)
}

// framed is a sector with a payload as layer 2's chapter puts it.
func framed(kind byte, payload []byte) []byte {
	sector := make([]byte, api.Sector)
	sector[0], sector[1] = kind, byte(len(payload))
	copy(sector[2:], payload)
	binary.BigEndian.PutUint32(sector[api.Sector-4:], crc32.ChecksumIEEE(sector[:api.Sector-4]))
	return sector
}

// encoded is the sector that layer 10's chapter says a node stands in, right or not.
func encoded(n node.Node) []byte {
	payload := []byte{byte(n.Level), byte(len(n.Keys))}
	for i, key := range n.Keys {
		payload = binary.BigEndian.AppendUint64(payload, uint64(key))
		payload = binary.BigEndian.AppendUint64(payload, uint64(n.Vals[i]))
	}
	return framed(2, payload)
}

// put demands that Put tells this address, and that the node stands there.
func (w *world) put(want int, n node.Node) {
	w.Helper()
	addr, err := w.p.Put(n)
	if addr != want || err != nil {
		w.Fatalf("Put(%v): %d, %v, not %d", n, addr, err, want)
	}
	if data := w.sector(addr); !bytes.Equal(data, encoded(n)) {
		w.Fatalf("Put(%v): at %d stands %x", n, addr, data)
	}
}

// sector is what stands at an address of the devices.
func (w *world) sector(addr int) []byte {
	w.Helper()
	device, sector := space.At(addr)
	data, err := w.b.Read(device, sector)
	must(w.T, "Read", err)
	return data
}

// lay writes a sector to an address of the devices, past the store.
func (w *world) lay(addr int, data []byte) {
	w.Helper()
	device, sector := space.At(addr)
	must(w.T, "Write", w.b.Write(device, sector, data))
}

// layNode writes a node to an address of the devices, past the store.
func (w *world) layNode(addr int, n node.Node) {
	w.Helper()
	w.lay(addr, encoded(n))
}

func (w *world) hold(addrs ...int) {
	w.Helper()
	for _, addr := range addrs {
		must(w.T, "Hold", w.p.Hold(addr))
	}
}

func (w *world) drop(addrs ...int) {
	w.Helper()
	for _, addr := range addrs {
		must(w.T, "Drop", w.p.Drop(addr))
	}
}

// holds are pages by their addresses, with their holds.
type holds map[int]int

// wantHolds demands that just these are pages, that they have these holds, and that their addresses, and no others, are taken in the space.
func (w *world) wantHolds(want holds) {
	w.Helper()
	addrs := slices.Sorted(maps.Keys(want))
	if got := w.p.Pages(); !slices.Equal(got, addrs) {
		w.Fatalf("Pages: %v, not %v", got, addrs)
	}
	for _, addr := range append(w.everywhere(), nowhere...) {
		if got := w.p.Holds(addr); got != want[addr] {
			w.Fatalf("Holds(%d): %d, not %d", addr, got, want[addr])
		}
		_, is := want[addr]
		if w.s.Taken(addr) != is {
			w.Fatalf("Taken(%d): %t", addr, !is)
		}
	}
}

// everywhere are all addresses of the space's devices.
func (w *world) everywhere() []int {
	var all []int
	for device, e := range w.s.Roster().List {
		for sector := range e.Size {
			all = append(all, space.Addr(device, sector))
		}
	}
	return all
}

// told is all that a store and a space tell.
type told struct {
	Pages []int
	Nodes map[int]node.Node
	// Holds and Held are by the addresses of pages; Held is how often each may be dropped, Fresh what is fresh of what is taken. Both are probed, where nothing is begun.
	Holds, Held map[int]int
	On          [api.MaxDevices][]int
	Used        [api.MaxDevices]int
	Free        int
	Fresh       []int
}

// tells is all that the store and the space tell.
func (w *world) tells() told {
	w.Helper()
	x := told{Pages: w.p.Pages(), Nodes: map[int]node.Node{}, Holds: map[int]int{}, Held: map[int]int{}, Free: w.s.Free()}
	for _, addr := range x.Pages {
		n, err := w.p.Get(addr)
		must(w.T, "Get", err)
		x.Nodes[addr], x.Holds[addr] = n, w.p.Holds(addr)
	}
	for device := range api.MaxDevices {
		x.On[device], x.Used[device] = w.s.On(device), w.s.Used(device)
	}
	return x
}

// all is what tells is, with what must be probed for.
func (w *world) all() told {
	w.Helper()
	x := w.tells()
	for _, addr := range x.Pages {
		w.begin()
		for w.p.Drop(addr) == nil {
			x.Held[addr]++
		}
		w.back()
	}
	must(w.T, "space.Begin", w.s.Begin())
	for _, addr := range slices.Concat(x.On[:]...) {
		if w.s.Unmark(addr) != nil {
			x.Fresh = append(x.Fresh, addr)
		}
	}
	must(w.T, "space.Back", w.s.Back())
	return x
}

// begin, commit and back are done to the store and its space alike.
func (w *world) begin() {
	w.Helper()
	must(w.T, "space.Begin", w.s.Begin())
	must(w.T, "Begin", w.p.Begin())
}

func (w *world) commit() {
	w.Helper()
	must(w.T, "Commit", w.p.Commit())
	must(w.T, "space.Commit", w.s.Commit())
}

func (w *world) back() {
	w.Helper()
	must(w.T, "Back", w.p.Back())
	must(w.T, "space.Back", w.s.Back())
}

// wantSame demands that all is told as before.
func wantSame(t *testing.T, what string, got, want told) {
	t.Helper()
	if !reflect.DeepEqual(got, want) {
		t.Fatalf("%s: %+v, not %+v", what, got, want)
	}
}

// refuses demands that a call tells this error, and that nothing is changed: neither if nothing is begun, nor behind Begin.
func (w *world) refuses(what string, want error, call func() error) {
	w.Helper()
	before := w.all()
	wantError(w.T, what, call(), want)
	wantSame(w.T, what, w.all(), before)
	w.begin()
	before = w.tells()
	wantError(w.T, what, call(), want)
	wantSame(w.T, what, w.tells(), before)
	w.commit()
	w.begin()
	wantError(w.T, what, call(), want)
	w.back()
}

// refusesPut demands that Put tells this error, no address beside it, and that nothing is changed.
func (w *world) refusesPut(n node.Node, want error) {
	w.Helper()
	w.refuses("Put", want, func() error {
		addr, err := w.p.Put(n)
		if addr != 0 {
			w.Fatalf("Put(%v) tells %d beside an error", n, addr)
		}
		return err
	})
}

// wantGet demands what Get tells.
func (w *world) wantGet(addr int, want node.Node) {
	w.Helper()
	n, err := w.p.Get(addr)
	if err != nil || !equal(n, want) {
		w.Fatalf("Get(%d): %v, %v, not %v", addr, n, err, want)
	}
}

// missing demands that there is no page at an address, for any call.
func (w *world) missing(addr int) {
	w.Helper()
	n, err := w.p.Get(addr)
	wantError(w.T, "Get", err, api.ErrMissing)
	if !reflect.DeepEqual(n, node.Node{}) {
		w.Fatalf("Get(%d) tells %v beside an error", addr, n)
	}
	wantError(w.T, "Hold", w.p.Hold(addr), api.ErrMissing)
	wantError(w.T, "Drop", w.p.Drop(addr), api.ErrMissing)
	wantError(w.T, "Scrap", w.p.Scrap(addr), api.ErrMissing)
	if w.p.Holds(addr) != 0 {
		w.Fatalf("Holds(%d): %d", addr, w.p.Holds(addr))
	}
}

func TestP11Example(t *testing.T) {
	w := made(t, 10)
	w.put(2, leaf(5))
	w.wantHolds(holds{2: 0})
	w.put(3, numbered(1, 2))
	w.wantHolds(holds{2: 1, 3: 0})
	w.hold(3)
	w.wantHolds(holds{2: 1, 3: 1})
	w.drop(3)
	w.wantHolds(holds{})
	w.missing(2)
	w.missing(3)
}

func TestP11_1New(t *testing.T) {
	for _, sizes := range [][]int{nil, {3}, {10}, {10, 12}} {
		w := made(t, sizes...)
		w.wantHolds(holds{})
		for _, addr := range append(w.everywhere(), nowhere...) {
			w.missing(addr)
		}
		wantError(t, "Commit", w.p.Commit(), api.ErrBusy)
		wantError(t, "Back", w.p.Back(), api.ErrBusy)
		if w.b.Done() != 0 {
			t.Errorf("New does %d writes", w.b.Done())
		}
	}
}

// TestP11_1NewKnowsNothing makes a store over devices with nodes, and a space in which they are taken.
func TestP11_1NewKnowsNothing(t *testing.T) {
	w := made(t, 10)
	w.put(2, leaf(5))
	w.put(3, numbered(1, 2))
	q := &world{t, w.b, w.s, pages.New(w.b, w.s)}
	if len(q.p.Pages()) != 0 {
		t.Errorf("Pages: %v", q.p.Pages())
	}
	q.missing(2)
	q.missing(3)
	w.wantHolds(holds{2: 1, 3: 0})
}

// TestP11_1Put puts nodes one above the other, up to the greatest Level.
func TestP11_1Put(t *testing.T) {
	w := made(t, 40)
	want := holds{2: 0, 3: 0}
	w.put(2, leaf(5))
	w.put(3, leaf(1, 2, 3, 4, 5, 6, 1<<61))
	w.wantHolds(want)
	for level := 1; level <= levels; level++ {
		addr := level + 3
		w.put(addr, numbered(level, addr-1))
		want[addr-1]++
		want[addr] = 0
		w.wantHolds(want)
		w.wantGet(addr, numbered(level, addr-1))
	}
	w.refusesPut(numbered(levels+1, levels+3), api.ErrNode)
	if w.b.Done() != levels+2 {
		t.Errorf("%d writes, not %d", w.b.Done(), levels+2)
	}
}

// TestP11_1PutNames counts how often pages are named: by several pages, and by one at several places.
func TestP11_1PutNames(t *testing.T) {
	w := made(t, 20)
	w.put(2, leaf(5))
	w.put(3, leaf(5)) // the same node is another page
	w.put(4, leaf(4))
	w.wantHolds(holds{2: 0, 3: 0, 4: 0})
	w.put(5, numbered(1, 3, 2))
	w.wantHolds(holds{2: 1, 3: 1, 4: 0, 5: 0})
	w.put(6, numbered(1, 3))
	w.wantHolds(holds{2: 1, 3: 2, 4: 0, 5: 0, 6: 0})
	w.put(7, numbered(1, 4, 3, 4))
	w.wantHolds(holds{2: 1, 3: 3, 4: 2, 5: 0, 6: 0, 7: 0})
	w.put(8, numbered(1, 2, 2, 2, 2, 2, 2, 2))
	w.wantHolds(holds{2: 8, 3: 3, 4: 2, 5: 0, 6: 0, 7: 0, 8: 0})
	w.put(9, numbered(2, 5, 8, 5))
	w.wantHolds(holds{2: 8, 3: 3, 4: 2, 5: 2, 6: 0, 7: 0, 8: 1, 9: 0})
	// What is held already has one more.
	w.hold(6, 6)
	w.put(10, numbered(2, 6))
	w.wantHolds(holds{2: 8, 3: 3, 4: 2, 5: 2, 6: 3, 7: 0, 8: 1, 9: 0, 10: 0})
}

// TestP11_1LeafValues puts leaves whose values happen to be addresses of pages: they are just numbers.
func TestP11_1LeafValues(t *testing.T) {
	w := made(t, 10)
	w.put(2, leaf(2, 3, 4))
	w.put(3, leaf(2, 3, 1))
	w.put(4, numbered(1, 2))
	w.put(5, leaf(2, 4, 4))
	w.wantHolds(holds{2: 1, 3: 0, 4: 0, 5: 0})
	must(t, "Scrap", w.p.Scrap(5))
	w.wantHolds(holds{2: 1, 3: 0, 4: 0})
}

// TestP11_1PutDevices puts pages on several devices, as the space takes them.
func TestP11_1PutDevices(t *testing.T) {
	w := made(t, 10, 12)
	for _, addr := range []int{4098, 4099, 2, 4100, 3} {
		w.put(addr, leaf(addr))
	}
	w.put(4101, numbered(1, 3, 4098))
	w.wantHolds(holds{2: 0, 3: 1, 4098: 1, 4099: 0, 4100: 0, 4101: 0})
}

// notRight are nodes that are not right, of which several name what is no page.
func notRight() []node.Node {
	return []node.Node{
		{}, {Level: 1}, {Keys: []int{1}}, {Vals: []int{2}}, {Keys: []int{1}, Vals: []int{2, 2}}, {Keys: []int{1, 2}, Vals: []int{2}},
		{Level: 1, Keys: []int{1, 2}, Vals: []int{2}}, {Level: 1, Keys: []int{1, 1}, Vals: []int{2, 2}}, {Level: 1, Keys: []int{2, 1}, Vals: []int{2, 2}},
		{Level: 1, Keys: []int{-1}, Vals: []int{2}}, {Level: 1, Keys: []int{1<<40 + 1}, Vals: []int{2}}, {Level: 1, Keys: []int{2, 1}, Vals: []int{99, 99}},
		leaf(0), leaf(-1), leaf(1<<61 + 1), leaf(math.MinInt), leaf(math.MaxInt), leaf(2, 0), numbered(1, 2, 0), numbered(1, 0), numbered(1, -2), numbered(1, 2, 1<<61+1),
		leaf(make([]int, most+1)...), leaf(1, 2, 3, 4, 5, 6, 7, 8), numbered(1, 2, 2, 2, 2, 2, 2, 2, 2), leaf(slices.Repeat([]int{2}, 300)...),
		numbered(-1, 2), numbered(levels+1, 2), numbered(math.MinInt, 2), numbered(math.MaxInt, 2), numbered(257, 2), numbered(-1, 99), numbered(levels+1, 99),
	}
}

func TestP11_1PutNotRight(t *testing.T) {
	w := made(t, 10)
	w.put(2, leaf(5))
	for _, n := range notRight() {
		w.refusesPut(n, api.ErrNode)
	}
	w.put(3, numbered(1, 2))
	if w.b.Done() != 2 {
		t.Errorf("%d writes, not 2", w.b.Done())
	}
}

// leveled is a store with pages of the Levels 0 to 3 at the addresses 2 to 5, a page of each Level that is held by nobody at 6 to 9, and pages that are gone at 10 and 11.
func leveled(t *testing.T) *world {
	t.Helper()
	w := made(t, 20)
	w.put(2, leaf(5))
	for level := 1; level <= 3; level++ {
		w.put(2+level, numbered(level, 1+level))
	}
	w.hold(5)
	for level := range 4 {
		if level == 0 {
			w.put(6, leaf(6))
		} else {
			w.put(6+level, numbered(level, 1+level))
		}
	}
	w.put(10, leaf(7))
	w.put(11, numbered(1, 10))
	must(t, "Scrap", w.p.Scrap(11))
	w.wantHolds(holds{2: 2, 3: 2, 4: 2, 5: 1, 6: 0, 7: 0, 8: 0, 9: 0})
	return w
}

func TestP11_1PutMissing(t *testing.T) {
	w := leveled(t)
	for _, addr := range []int{1, 10, 11, 12, 19, 20, 21, 4098, 1 << 61} {
		for level := 1; level <= levels; level++ {
			w.refusesPut(numbered(level, addr), api.ErrMissing)
		}
		w.refusesPut(numbered(1, 2, 2, addr), api.ErrMissing)
		w.refusesPut(numbered(1, addr, 2, 6), api.ErrMissing)
		w.refusesPut(numbered(1, 2, 2, 2, addr, 2, 2, 2), api.ErrMissing)
	}
}

func TestP11_1PutOtherLevel(t *testing.T) {
	w := leveled(t)
	for level := 1; level <= levels; level++ {
		for below := range 4 {
			if below == level-1 {
				continue
			}
			for _, addr := range []int{2 + below, 6 + below} {
				w.refusesPut(numbered(level, addr), api.ErrNode)
				if level <= 4 {
					w.refusesPut(numbered(level, 1+level, addr), api.ErrNode)
					w.refusesPut(numbered(level, addr, 1+level, 5+level), api.ErrNode)
				}
			}
		}
	}
}

// TestP11_1PutOrder demands which error is told, where several would be.
func TestP11_1PutOrder(t *testing.T) {
	unsorted := node.Node{Level: 1, Keys: []int{2, 1}, Vals: []int{99, 3}}
	missing, otherLevel := numbered(1, 3, 99), numbered(1, 2, 3)
	w := leveled(t)
	w.refusesPut(unsorted, api.ErrNode)
	w.refusesPut(missing, api.ErrMissing)
	w.refusesPut(numbered(1, 99, 3), api.ErrMissing)
	w.refusesPut(numbered(1, 3, 3, 2, 99, 3), api.ErrMissing)
	for w.s.Free() > 0 {
		w.put(20-w.s.Free(), leaf(1))
	}
	refused := func(last error) {
		t.Helper()
		w.refusesPut(unsorted, api.ErrNode)
		w.refusesPut(missing, api.ErrMissing)
		w.refusesPut(otherLevel, api.ErrNode)
		w.refusesPut(leaf(1), last)
		w.refusesPut(numbered(1, 2, 6), last)
	}
	refused(api.ErrFull)
	w.b.Arm(0)
	w.b.Flush(0)
	refused(api.ErrFull)
	must(t, "Scrap", w.p.Scrap(19))
	refused(broken("write", 19, api.ErrDown))
	w.b.Crash()
	must(t, "Detach", w.b.Detach(0))
	refused(broken("write", 19, api.ErrGone))
}

func TestP11_1PutFull(t *testing.T) {
	w := made(t, 6)
	for addr := 2; addr < 6; addr++ {
		w.put(addr, leaf(addr))
	}
	done := w.b.Done()
	w.refusesPut(leaf(9), api.ErrFull)
	w.refusesPut(numbered(1, 2, 3), api.ErrFull)
	if w.b.Done() != done {
		t.Errorf("%d writes, not %d", w.b.Done(), done)
	}
	// What is given back has to be settled first, if it is not fresh.
	must(t, "Scrap", w.p.Scrap(4))
	w.put(4, numbered(1, 2))
	w.s.Settle()
	must(t, "Scrap", w.p.Scrap(5))
	w.refusesPut(leaf(9), api.ErrFull)
	w.s.Settle()
	w.put(5, leaf(9))
	w.wantHolds(holds{2: 1, 3: 0, 4: 0, 5: 0})
	// A space without devices is full, too.
	made(t).refusesPut(leaf(1), api.ErrFull)
}

// takes are the addresses that may be taken in a space, in the order in which it tells them. All is taken back.
func (w *world) takes() []int {
	w.Helper()
	must(w.T, "space.Begin", w.s.Begin())
	var addrs []int
	for addr, err := w.s.Take(); err == nil; addr, err = w.s.Take() {
		addrs = append(addrs, addr)
	}
	must(w.T, "space.Back", w.s.Back())
	return addrs
}

// refusesWrite demands that a Put of a leaf and of a node above a page tell this error, change nothing, and give back what they took.
func (w *world) refusesWrite(named int, want error) {
	w.Helper()
	before := w.takes()
	w.refusesPut(leaf(9), want)
	w.refusesPut(numbered(1, named, named), want)
	if got := w.takes(); !slices.Equal(got, before) {
		w.Fatalf("what may be taken: %v, not %v", got, before)
	}
}

func TestP11_1PutWriteFails(t *testing.T) {
	// A device that is detached; the next one has the most free then.
	w := made(t, 10, 12)
	w.put(4098, leaf(1))
	must(t, "Detach", w.b.Detach(1))
	w.refusesWrite(4098, broken("write", 4099, api.ErrGone))

	// A power that goes, and one that is down.
	w = made(t, 10)
	w.put(2, leaf(1))
	w.b.Arm(0)
	w.refusesWrite(2, broken("write", 3, api.ErrDown))
	if !w.b.Down() || w.b.Done() != 1 {
		t.Errorf("the power is down: %t, %d writes", w.b.Down(), w.b.Done())
	}
	w.refusesWrite(2, broken("write", 3, api.ErrDown))
	w.b.Crash(1)
	w.put(3, numbered(1, 2))

	// A device that the bank does not have, and one that is smaller there.
	w = over(t, banked(t, 10), rostered(10, 10))
	w.put(2, leaf(1))
	w.refusesWrite(2, broken("write", 4098, api.ErrDevice))
	w = over(t, banked(t, 3), rostered(10))
	w.put(2, leaf(1))
	w.refusesWrite(2, broken("write", 3, api.ErrRange))
}

// TestP11_1PutWriteFailsFault finds the fault by the standard calls.
func TestP11_1PutWriteFailsFault(t *testing.T) {
	w := made(t, 10)
	w.b.Arm(0)
	_, err := w.p.Put(leaf(1))
	var f *fault.Fault
	if !errors.Is(err, api.ErrDown) || !errors.As(err, &f) || f.Op != "page" || f.Device != 0 || f.Place != 2 {
		t.Errorf("%v", err)
	}
	if !slices.Equal(fault.Path(err), []string{"page", "write"}) || err.Error() != "page 0:2: write 0:2: portage: error 22" {
		t.Errorf("%v, %v", fault.Path(err), err)
	}
	for _, n := range []node.Node{{}, numbered(1, 9)} {
		if _, err = w.p.Put(n); errors.As(err, &f) {
			t.Errorf("Put(%v): %v is a fault", n, err)
		}
	}
}

// TestP11_1PutWriteFailsBegun puts in vain behind Begin, where pages went that were there ahead of it.
func TestP11_1PutWriteFailsBegun(t *testing.T) {
	w := made(t, 6)
	w.put(2, leaf(1))
	w.put(3, leaf(1))
	w.s.Settle()
	w.put(4, leaf(1))
	before := w.all()
	w.begin()
	for addr := 2; addr <= 4; addr++ {
		must(t, "Scrap", w.p.Scrap(addr))
	}
	w.b.Arm(0)
	within := w.tells()
	for range 2 {
		_, err := w.p.Put(leaf(1))
		wantError(t, "Put", err, broken("write", 5, api.ErrDown))
		wantSame(t, "Put", w.tells(), within)
	}
	w.b.Crash()
	w.put(5, leaf(1))
	_, err := w.p.Put(leaf(1))
	wantError(t, "Put", err, api.ErrFull)
	w.back()
	wantSame(t, "Back", w.all(), before)
}

// TestP11_1PutWriteFailsFreeSince puts in vain behind Begin, at an address that was taken ahead of Begin, and was free since.
func TestP11_1PutWriteFailsFreeSince(t *testing.T) {
	for _, fresh := range []bool{false, true} {
		w := made(t, 4)
		w.put(2, leaf(1))
		if !fresh {
			w.s.Settle()
		}
		before := w.all()
		w.begin()
		must(t, "Scrap", w.p.Scrap(2))
		w.s.Settle()
		within := w.tells()
		w.b.Arm(0)
		for range 2 {
			_, err := w.p.Put(leaf(1))
			wantError(t, "Put", err, broken("write", 2, api.ErrDown))
			wantSame(t, "Put", w.tells(), within)
		}
		w.b.Crash()
		w.put(2, leaf(2))
		must(t, "Scrap", w.p.Scrap(2))
		wantSame(t, "Put and Scrap", w.tells(), within)
		w.back()
		wantSame(t, "Back", w.all(), before)
	}
}

// TestP11_1BadSector puts a page on a sector that cannot be read: it is written, and known.
func TestP11_1BadSector(t *testing.T) {
	w := made(t, 6)
	must(t, "Bad", w.b.Bad(0, 2, true))
	if addr, err := w.p.Put(leaf(1)); addr != 2 || err != nil {
		t.Fatalf("Put: %d, %v", addr, err)
	}
	w.wantGet(2, leaf(1))
	w.wantHolds(holds{2: 0})
}

func TestP11_2Get(t *testing.T) {
	w := leveled(t)
	w.wantGet(2, leaf(5))
	w.wantGet(3, numbered(1, 2))
	w.wantGet(9, numbered(3, 4))
	full := node.Node{Level: 1, Keys: []int{0, 1, 5, 255, 256, 1<<40 - 1, 1 << 40}, Vals: []int{2, 6, 2, 6, 6, 2, 2}}
	w.put(10, full)
	w.wantGet(10, full)
	greatest := node.Node{Keys: []int{0, 1 << 40}, Vals: []int{1 << 61, 1}}
	w.put(11, greatest)
	w.wantGet(11, greatest)
	for _, addr := range append([]int{0, 1, 12, 13, 19, 20, 4098}, nowhere...) {
		w.missing(addr)
	}
	// A page is what the store knows, whatever becomes of the devices.
	must(t, "Bad", w.b.Bad(0, 10, true))
	w.wantGet(10, full)
	w.lay(11, make([]byte, api.Sector))
	w.wantGet(11, greatest)
	must(t, "Detach", w.b.Detach(0))
	w.wantGet(3, numbered(1, 2))
}

func TestP11_2Missing(t *testing.T) {
	w := leveled(t)
	for _, addr := range append([]int{0, 1, 10, 11, 12, 19, 20, 4098}, nowhere...) {
		w.refuses("Hold", api.ErrMissing, func() error { return w.p.Hold(addr) })
		w.refuses("Drop", api.ErrMissing, func() error { return w.p.Drop(addr) })
		w.refuses("Scrap", api.ErrMissing, func() error { return w.p.Scrap(addr) })
		w.refuses("Get", api.ErrMissing, func() error { _, err := w.p.Get(addr); return err })
		w.missing(addr)
	}
}

func TestP11_2HoldAndDrop(t *testing.T) {
	w := made(t, 10)
	w.put(2, leaf(1))
	w.put(3, leaf(1))
	for count := 1; count <= 5; count++ {
		w.hold(2)
		w.wantHolds(holds{2: count, 3: 0})
	}
	for count := 4; count >= 1; count-- {
		w.drop(2)
		w.wantHolds(holds{2: count, 3: 0})
	}
	w.drop(2)
	w.wantHolds(holds{3: 0})
	w.missing(2)
	// It may be taken once more, and has no holds then.
	w.put(2, leaf(2))
	w.wantHolds(holds{2: 0, 3: 0})
	w.refuses("Drop", api.ErrBusy, func() error { return w.p.Drop(2) })
}

func TestP11_2DropBusy(t *testing.T) {
	w := leveled(t)
	for _, addr := range []int{2, 3, 4, 6, 7, 8, 9} {
		w.refuses("Drop", api.ErrBusy, func() error { return w.p.Drop(addr) })
	}
	// What was held is dropped as often, and stays for those that name it.
	w.hold(3, 3)
	w.drop(3, 3)
	w.refuses("Drop", api.ErrBusy, func() error { return w.p.Drop(3) })
	w.wantHolds(holds{2: 2, 3: 2, 4: 2, 5: 1, 6: 0, 7: 0, 8: 0, 9: 0})
}

func TestP11_2Scrap(t *testing.T) {
	w := leveled(t)
	for _, addr := range []int{2, 3, 4, 5} {
		w.refuses("Scrap", api.ErrBusy, func() error { return w.p.Scrap(addr) })
	}
	w.hold(9)
	w.refuses("Scrap", api.ErrBusy, func() error { return w.p.Scrap(9) })
	must(t, "Scrap", w.p.Scrap(6))
	w.wantHolds(holds{2: 2, 3: 2, 4: 2, 5: 1, 7: 0, 8: 0, 9: 1})
	must(t, "Scrap", w.p.Scrap(8))
	w.wantHolds(holds{2: 2, 3: 1, 4: 2, 5: 1, 7: 0, 9: 1})
	must(t, "Scrap", w.p.Scrap(7))
	w.wantHolds(holds{2: 1, 3: 1, 4: 2, 5: 1, 9: 1})
	w.missing(6)
	w.missing(7)
	w.missing(8)
}

// TestP11_2GoneTogether lets a tree go, and wants those to stay that others hold or name.
func TestP11_2GoneTogether(t *testing.T) {
	grown := func() *world {
		w := made(t, 20)
		for addr := 2; addr <= 5; addr++ {
			w.put(addr, leaf(addr))
		}
		w.put(6, numbered(1, 2, 3, 3))
		w.put(7, numbered(1, 3, 4))
		w.put(8, numbered(1, 5))
		w.put(9, numbered(2, 6, 7))
		w.put(10, numbered(2, 7, 8))
		w.put(11, numbered(3, 9, 10, 9))
		w.wantHolds(holds{2: 1, 3: 3, 4: 1, 5: 1, 6: 1, 7: 2, 8: 1, 9: 2, 10: 1, 11: 0})
		return w
	}
	w := grown()
	must(t, "Scrap", w.p.Scrap(11))
	w.wantHolds(holds{})

	w = grown()
	w.hold(11, 11)
	w.drop(11)
	w.wantHolds(holds{2: 1, 3: 3, 4: 1, 5: 1, 6: 1, 7: 2, 8: 1, 9: 2, 10: 1, 11: 1})
	w.drop(11)
	w.wantHolds(holds{})

	w = grown()
	w.hold(11, 7, 3)
	w.drop(11)
	w.wantHolds(holds{3: 2, 4: 1, 7: 1})
	w.drop(7)
	w.wantHolds(holds{3: 1})
	w.drop(3)
	w.wantHolds(holds{})

	w = grown()
	w.hold(10)
	must(t, "Scrap", w.p.Scrap(11))
	w.wantHolds(holds{3: 1, 4: 1, 5: 1, 7: 1, 8: 1, 10: 1})
	w.put(2, leaf(2))
	w.put(6, numbered(1, 2, 3))
	w.drop(10)
	w.wantHolds(holds{2: 1, 3: 1, 6: 0})
}

// TestP11_2GoneFromTheTop lets a tree of all Levels go.
func TestP11_2GoneFromTheTop(t *testing.T) {
	w := made(t, 40)
	w.put(2, leaf(1))
	for level := 1; level <= levels; level++ {
		w.put(2+level, numbered(level, 1+level, 1+level))
	}
	w.hold(2 + levels)
	w.drop(2 + levels)
	w.wantHolds(holds{})
	if w.s.Free() != 38 {
		t.Errorf("Free: %d, not 38", w.s.Free())
	}
}

// TestP11_2GoneIsGiven demands that what is gone is given back as layer 8's Give does it: free at once, if it is fresh, else behind Settle.
func TestP11_2GoneIsGiven(t *testing.T) {
	w := made(t, 10)
	w.put(2, leaf(1))
	w.put(3, leaf(1))
	w.s.Settle()
	w.put(4, leaf(1))
	w.put(5, numbered(1, 2, 4, 2))
	w.put(6, numbered(1, 3))
	must(t, "Scrap", w.p.Scrap(5))
	w.wantHolds(holds{3: 1, 6: 0})
	if w.s.Used(0) != 3 || w.s.Free() != 5 {
		t.Errorf("Used: %d, Free: %d", w.s.Used(0), w.s.Free())
	}
	if n := w.s.Settle(); n != 1 || w.s.Free() != 6 {
		t.Errorf("Settle: %d, Free: %d", n, w.s.Free())
	}
	done := w.b.Done()
	must(t, "Scrap", w.p.Scrap(6))
	if n := w.s.Settle(); n != 2 || w.s.Free() != 8 {
		t.Errorf("Settle: %d, Free: %d", n, w.s.Free())
	}
	if w.b.Done() != done {
		t.Errorf("what goes is written: %d", w.b.Done()-done)
	}
}

// TestP11_2WithoutPower holds, drops and scraps while the power is down: no device is asked.
func TestP11_2WithoutPower(t *testing.T) {
	w := leveled(t)
	w.b.Arm(0)
	w.b.Flush(0)
	w.wantGet(2, leaf(5))
	w.hold(3)
	w.drop(3, 5)
	must(t, "Scrap", w.p.Scrap(9))
	must(t, "Adopt", w.p.Adopt(8))
	w.wantHolds(holds{2: 2, 3: 1, 6: 0, 7: 0, 8: 1})
}
