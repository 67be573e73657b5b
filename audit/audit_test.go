package audit_test

import (
	"errors"
	"math"
	"reflect"
	"slices"
	"testing"

	"portage/api"
	"portage/audit"
	"portage/bank"
	"portage/fault"
	"portage/mover"
	"portage/node"
	"portage/pool"
	"portage/space"
)

// edges are numbers at the ends of what devices may be, and past them.
var edges = []int{math.MinInt, math.MinInt + 1, math.MinInt32, -4096, -9, -8, -2, -1, 7, 8, 9, 4095, 4096, math.MaxInt32, 1 << 32, 1 << 60, 1 << 62, math.MaxInt - 1, math.MaxInt}

// enough is more than all steps, and all writes of a call, that these tests need.
const enough = 1000

// world is a pool, and its bank.
type world struct {
	*testing.T
	b *bank.Bank
	p *pool.Pool
}

// must demands that a call is not refused.
func must(t *testing.T, what string, err error) {
	t.Helper()
	if err != nil {
		t.Fatalf("%s: %v", what, err)
	}
}

// banked is a bank with devices of so many sectors.
func banked(t *testing.T, sizes ...int) *bank.Bank {
	t.Helper()
	b := bank.New()
	for _, size := range sizes {
		_, err := b.Add(size)
		must(t, "Add", err)
	}
	return b
}

// made is a new pool over devices of so many sectors.
func made(t *testing.T, sizes ...int) *world {
	t.Helper()
	b := banked(t, sizes...)
	p, err := pool.Format(b)
	must(t, "Format", err)
	return &world{T: t, b: b, p: p}
}

// of are blocks, each with bytes of its own; of 0 they are noughts.
func of(list ...int) []byte {
	var data []byte
	for _, c := range list {
		for i := range api.Sector {
			data = append(data, byte(c*(i+1)+c>>8))
		}
	}
	return data
}

// span are so many numbers, from one on.
func span(from, count int) []int {
	var list []int
	for i := range count {
		list = append(list, from+i)
	}
	return list
}

// write lets blocks from one on have what is of these numbers.
func (w *world) write(id, block int, list ...int) {
	w.Helper()
	for at := 0; at < len(list); at += api.MaxRun {
		must(w.T, "Write", w.p.Write(id, block+at, of(list[at:min(at+api.MaxRun, len(list))]...)))
	}
}

// keepAll lets the bank crash, with all kept that was written.
func keepAll(b *bank.Bank) {
	b.Crash(slices.Repeat([]int{math.MaxInt}, b.Pending())...)
}

// left lets a device be left, from Evacuate on.
func (w *world) left(device int) {
	w.Helper()
	must(w.T, "Evacuate", w.p.Evacuate(device))
	w.leave()
}

// leave does steps till the device is left.
func (w *world) leave() {
	w.Helper()
	for range enough {
		did, err := w.p.Move()
		must(w.T, "Move", err)
		if did == mover.Empty {
			return
		}
	}
	w.Fatal("the device is never left")
}

// still demands that calls leave a bank as it is: nothing is written, nothing waits that did not, and the power is as it was.
func still(t *testing.T, b *bank.Bank, calls func()) {
	t.Helper()
	done, waits, down, sizes := b.Done(), b.Pending(), b.Down(), b.Sizes()
	calls()
	if b.Done() != done || b.Pending() != waits || b.Down() != down || !slices.Equal(b.Sizes(), sizes) {
		t.Fatal("something was written")
	}
}

// refused demands that all calls tell an error, the same one, and nothing beside it, and tells it.
func refused(t *testing.T, b *bank.Bank) error {
	t.Helper()
	var told error
	still(t, b, func() {
		r, err := audit.Audit(b)
		if err == nil || !empty(r) || audit.Sound(b) {
			t.Fatalf("Audit: %+v, %v, and Sound %t", r, err, audit.Sound(b))
		}
		for _, device := range append(span(0, api.MaxDevices), edges...) {
			names, other := audit.Names(b, device)
			if len(names) != 0 || !reflect.DeepEqual(other, err) {
				t.Fatalf("Names(%d): %v, %v, and Audit %v", device, names, other, err)
			}
		}
		told = err
	})
	return told
}

// empty tells whether nothing is set in a report.
func empty(r audit.Report) bool {
	return len(r.On) == 0 && r.Gen == 0 && r.Volumes == 0 && r.Mapped == 0 && r.Data == 0 && r.Pages == 0 && r.Levels == 0
}

// wantCode demands that all calls tell just a code, with no fault around it.
func wantCode(t *testing.T, b *bank.Bank, want api.Code) {
	t.Helper()
	if err := refused(t, b); err != error(want) {
		t.Fatalf("Audit: %v, not %v", err, want)
	}
}

// wantWrong demands that all calls tell just a fault with the word audit, of this device and sector, around ErrAudit.
func wantWrong(t *testing.T, b *bank.Bank, device, sector int) {
	t.Helper()
	wantFault(t, refused(t, b), device, sector, api.ErrAudit)
}

// wantFault demands that an error is just a fault with the word audit, of this device and sector, around this one.
func wantFault(t *testing.T, err error, device, sector int, within error) {
	t.Helper()
	if want := fault.Wrap("audit", device, sector, within); !reflect.DeepEqual(err, want) {
		t.Fatalf("Audit: %v, not %v", err, want)
	}
}

// wantReport demands what is told of a pool that is sound.
func wantReport(t *testing.T, b *bank.Bank, want audit.Report) {
	t.Helper()
	still(t, b, func() {
		r, err := audit.Audit(b)
		if err != nil || !reflect.DeepEqual(r, want) || !audit.Sound(b) {
			t.Fatalf("Audit: %+v, %v, not %+v, and Sound: %t", r, err, want, audit.Sound(b))
		}
	})
}

// wantInfo demands that the report, and the names, of what was committed are what the pool tells of itself.
func (w *world) wantInfo() {
	w.Helper()
	still(w.T, w.b, func() {
		r, err := audit.Audit(w.b)
		must(w.T, "Audit", err)
		i, m := w.p.Info(), w.p.Manager()
		mapped := 0
		for _, v := range i.Volumes {
			mapped += v.Mapped
		}
		if r.Gen != i.Gen || r.Volumes != len(i.Volumes) || r.Mapped != mapped || r.Data != i.Data || r.Pages != i.Pages || len(r.On) != len(i.Roster.List) {
			w.Fatalf("Audit: %+v, and Info %+v", r, i)
		}
		data, pages := on(m.Data()), on(m.Pages())
		for device, e := range i.Roster.List {
			names, err := audit.Names(w.b, device)
			must(w.T, "Names", err)
			all := slices.Concat(data[device], pages[device])
			slices.Sort(all)
			if !slices.Equal(names, all) || r.On[device] != (audit.Count{Data: len(data[device]), Pages: len(pages[device])}) {
				w.Fatalf("on %d: %v, %+v, and the pool has %v, %v", device, names, r.On[device], data[device], pages[device])
			}
			if e.State == api.Removed && len(names) > 0 {
				w.Fatalf("the device %d is Removed, and has %v", device, names)
			}
		}
	})
}

// on are the addresses of each device.
func on(addrs []int) [api.MaxDevices][]int {
	var list [api.MaxDevices][]int
	for _, addr := range addrs {
		device, _ := space.At(addr)
		list[device] = append(list[device], addr)
	}
	return list
}

// TestExample is the chapter's.
func TestExample(t *testing.T) {
	w := made(t, 50, 50)
	must(t, "Create", w.p.Create(1, 100))
	w.write(1, 5, 'a')
	must(t, "Flush", w.p.Flush())
	r, err := audit.Audit(w.b)
	if err != nil || r.Volumes != 1 || r.Mapped != 1 || r.Data != 1 || r.Pages != 2 || r.Levels != 1 || r.Gen != 3 || len(r.On) != 2 {
		t.Fatalf("Audit: %+v, %v", r, err)
	}
	w.wantInfo()
}

// TestP22_1None has banks on which no pool stands.
func TestP22_1None(t *testing.T) {
	wantCode(t, bank.New(), api.ErrNone)
	for _, sizes := range [][]int{{1}, {2}, {3}, {50, 50}, {4096}, {1, 2, 3, 4, 5, 6, 7, 8}} {
		b := banked(t, sizes...)
		wantCode(t, b, api.ErrNone)
		for device := range sizes {
			must(t, "Fill", b.Fill(device, of(77)))
		}
		wantCode(t, b, api.ErrNone)
	}
	// The superblocks are lost, or bad, or all devices are detached.
	for _, lose := range []func(b *bank.Bank, device int) error{
		func(b *bank.Bank, device int) error { return b.Fill(device, nil) },
		func(b *bank.Bank, device int) error {
			return errors.Join(b.Write(device, 0, of(7)), b.Write(device, 1, of(7)))
		},
		func(b *bank.Bank, device int) error {
			return errors.Join(b.Bad(device, 0, true), b.Bad(device, 1, true))
		},
		(*bank.Bank).Detach,
	} {
		w := made(t, 50, 50)
		must(t, "Create", w.p.Create(1, 9))
		w.wantInfo()
		for device := range 2 {
			must(t, "lose", lose(w.b, device))
		}
		wantCode(t, w.b, api.ErrNone)
	}
}

// TestP22_1Down has banks whose power is down, with and without a pool: that comes first.
func TestP22_1Down(t *testing.T) {
	w := made(t, 50, 50)
	must(t, "Create", w.p.Create(1, 9))
	wrong := made(t, 50, 50)
	must(t, "Detach", wrong.b.Detach(1))
	for _, b := range []*bank.Bank{w.b, wrong.b, banked(t, 50), banked(t, 1)} {
		b.Arm(0)
		if b.Flush(0) == nil {
			t.Fatal("the power is up")
		}
		wantCode(t, b, api.ErrDown)
		b.Arm(-1)
		wantCode(t, b, api.ErrDown)
		b.Crash()
		if _, err := audit.Audit(b); errors.Is(err, api.ErrDown) {
			t.Fatalf("Audit: %v", err)
		}
	}
	w.p, _ = pool.Open(w.b)
	w.wantInfo()
	// A power that is armed, and up, is no matter.
	w.b.Arm(0)
	w.wantInfo()
	if w.b.Down() || w.b.Flush(0) == nil {
		t.Fatal("the power was not armed any more")
	}
}

// TestP22_1Reports has pools of several kinds.
func TestP22_1Reports(t *testing.T) {
	none := audit.Count{}
	w := made(t, 50, 40)
	wantReport(t, w.b, audit.Report{Gen: 1, On: []audit.Count{none, none}})
	// Volumes without blocks have no tree; the catalog has one.
	for id := 1; id <= 3; id++ {
		must(t, "Create", w.p.Create(id, 1<<20))
	}
	wantReport(t, w.b, audit.Report{Gen: 4, Volumes: 3, Pages: 1, Levels: 1, On: w.counts()})
	// What is not committed plays no part.
	w.write(1, 0, 1, 2, 3)
	wantReport(t, w.b, audit.Report{Gen: 4, Volumes: 3, Pages: 1, Levels: 1, On: audited(t, w.b).On})
	must(t, "Flush", w.p.Flush())
	wantReport(t, w.b, audit.Report{Gen: 5, Volumes: 3, Mapped: 3, Data: 3, Pages: 2, Levels: 1, On: w.counts()})
	// A snapshot has all pages and blocks in common, but its pairs count for themselves.
	must(t, "Snapshot", w.p.Snapshot(4, 1))
	wantReport(t, w.b, audit.Report{Gen: 6, Volumes: 4, Mapped: 6, Data: 3, Pages: w.p.Info().Pages, Levels: levels(t, w), On: w.counts()})
	w.write(4, 1, 9)
	w.write(4, 5, 9)
	must(t, "Flush", w.p.Flush())
	wantReport(t, w.b, audit.Report{Gen: 7, Volumes: 4, Mapped: 7, Data: 5, Pages: w.p.Info().Pages, Levels: levels(t, w), On: w.counts()})
	w.wantInfo()
	for id := 1; id <= 4; id++ {
		must(t, "Delete", w.p.Delete(id))
	}
	wantReport(t, w.b, audit.Report{Gen: 11, On: []audit.Count{none, none}})
}

// audited is the report of a pool that is sound.
func audited(t *testing.T, b *bank.Bank) audit.Report {
	t.Helper()
	r, err := audit.Audit(b)
	must(t, "Audit", err)
	return r
}

// counts are how many blocks and pages the pool says that each device has.
func (w *world) counts() []audit.Count {
	data, pages := on(w.p.Manager().Data()), on(w.p.Manager().Pages())
	var list []audit.Count
	for device := range w.p.Info().Roster.List {
		list = append(list, audit.Count{Data: len(data[device]), Pages: len(pages[device])})
	}
	return list
}

// TestP22_1High has a volume with ever more blocks: its tree has ever more levels.
func TestP22_1High(t *testing.T) {
	w := made(t, 4096, 4096, 4096)
	must(t, "Create", w.p.Create(1, 4000))
	seen := map[int]bool{}
	for at := 0; at < 4000; at += 200 {
		w.write(1, at, span(at+1, 200)...)
		must(t, "Flush", w.p.Flush())
		want := levels(t, w)
		if r := audited(t, w.b); r.Levels != want || r.Mapped != at+200 {
			t.Fatalf("Audit: %+v, not %d levels", r, want)
		}
		seen[want] = true
		w.wantInfo()
	}
	if len(seen) < 3 {
		t.Fatalf("the trees had %v levels", seen)
	}
	// The catalog's is the highest one, if all volumes are empty.
	w = made(t, 200, 200)
	for id := 1; id <= api.MaxVolumes; id++ {
		must(t, "Create", w.p.Create(id, 9))
	}
	if r := audited(t, w.b); r.Levels != levels(t, w) || r.Levels < 2 || r.Volumes != api.MaxVolumes || r.Mapped+r.Data != 0 {
		t.Fatalf("Audit: %+v", r)
	}
}

// TestP22_1States has devices that are Active, Draining and Removed: each has an entry.
func TestP22_1States(t *testing.T) {
	w := made(t, 60, 50, 70)
	must(t, "Create", w.p.Create(1, 40))
	w.write(1, 0, span(1, 30)...)
	must(t, "Evacuate", w.p.Evacuate(1))
	if r := audited(t, w.b); len(r.On) != 3 || r.On[1].Data == 0 {
		t.Fatalf("Audit: %+v", r)
	}
	w.wantInfo()
	w.leave()
	w.wantInfo()
	if r := audited(t, w.b); len(r.On) != 3 || r.On[1] != (audit.Count{}) || r.On[0].Data == 0 || r.On[2].Data == 0 {
		t.Fatalf("Audit: %+v", r)
	}
	must(t, "Fill", w.b.Fill(1, of(77)))
	w.wantInfo()
	must(t, "Detach", w.b.Detach(1))
	w.wantInfo()
	// A device that the bank has, and the pool has not, has no entry.
	_, err := w.b.Add(30)
	must(t, "Add", err)
	w.wantInfo()
	must(t, "Add", w.p.Add(3))
	w.wantInfo()
	if r := audited(t, w.b); len(r.On) != 4 {
		t.Fatalf("Audit: %+v", r)
	}
}

// levels are how many levels the highest tree of a pool has, by the nodes that the pool's store has.
func levels(t *testing.T, w *world) int {
	t.Helper()
	most := 0
	for _, addr := range w.p.Manager().Pages() {
		device, sector := space.At(addr)
		data, err := w.b.Read(device, sector)
		must(t, "Read", err)
		n, err := node.Parse(data)
		must(t, "Parse", err)
		most = max(most, n.Level+1)
	}
	return most
}
