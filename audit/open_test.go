package audit_test

import (
	"encoding/binary"
	"errors"
	"fmt"
	"hash/crc32"
	"testing"

	"portage/api"
	"portage/audit"
	"portage/bank"
	"portage/fault"
	"portage/node"
	"portage/pool"
	"portage/roster"
	"portage/space"
	"portage/super"
)

// TestP22_4Bits turns each bit of each page of a pool: it is not sound, the fault is the page's, and Open refuses it.
func TestP22_4Bits(t *testing.T) {
	w := made(t, 60, 50)
	must(t, "Create", w.p.Create(1, 900))
	for at := range 20 {
		w.write(1, at*41, at+1)
	}
	must(t, "Snapshot", w.p.Snapshot(2, 1))
	w.write(2, 41, 7)
	must(t, "Flush", w.p.Flush())
	if r := audited(t, w.b); r.Levels < 2 || r.Pages < 6 {
		t.Fatalf("Audit: %+v", r)
	}
	for _, addr := range w.p.Manager().Pages() {
		device, sector := space.At(addr)
		good, err := w.b.Read(device, sector)
		must(t, "Read", err)
		for bit := range 8 * api.Sector {
			wrong := append([]byte(nil), good...)
			wrong[bit/8] ^= 1 << (bit % 8)
			must(t, "Write", w.b.Write(device, sector, wrong))
			_, err := audit.Audit(w.b)
			wantFault(t, err, device, sector, api.ErrAudit)
			if p, err := pool.Open(w.b); err == nil || p != nil || audit.Sound(w.b) {
				t.Fatalf("the bit %d of %d: a pool", bit, addr)
			}
		}
		must(t, "Write", w.b.Write(device, sector, good))
		w.wantInfo()
	}
	// A bit of a block is no matter.
	device, sector := space.At(w.p.Manager().Data()[0])
	must(t, "Write", w.b.Write(device, sector, of(77)))
	w.wantInfo()
}

// TestP22_4Superblocks turns bits of superblocks: Open and Sound agree.
func TestP22_4Superblocks(t *testing.T) {
	for device := range 2 {
		for slot := range api.Slots {
			for bit := range 8 * api.Sector {
				w := made(t, 30, 30)
				must(t, "Create", w.p.Create(1, 9))
				sector, err := w.b.Read(device, slot)
				must(t, "Read", err)
				sector[bit/8] ^= 1 << (bit % 8)
				must(t, "Write", w.b.Write(device, slot, sector))
				agree(t, w.b)
			}
		}
	}
}

// agree demands that Open makes a pool just if the devices are sound, that the pool is as the report says, and that nothing panics that is done to it. It tells whether there is one.
func agree(t *testing.T, b *bank.Bank) bool {
	t.Helper()
	r, wrong := audit.Audit(b)
	var f *fault.Fault
	if isCode := wrong == error(api.ErrNone); wrong != nil && !isCode && (!errors.As(wrong, &f) || f.Op != "audit" || !errors.Is(wrong, api.ErrAudit) && !errors.Is(wrong, api.ErrRead)) {
		t.Fatalf("Audit: %v", wrong)
	}
	p, err := pool.Open(b)
	if (err == nil) != (wrong == nil) || (p == nil) != (err != nil) {
		t.Fatalf("Open: %v, and Audit: %v", err, wrong)
	}
	if err != nil {
		return false
	}
	w := &world{t, b, p}
	w.wantInfo()
	if now := audited(t, b); fmt.Sprint(now) != fmt.Sprint(r) {
		t.Fatalf("behind Open: %+v, not %+v", now, r)
	}
	w.use()
	return true
}

// committed commits, if that can be, and demands that it is sound, unless it may stand in sectors that cannot be read.
func (w *world) committed() {
	w.Helper()
	if w.p.Flush() == nil && isReadable(w.b) {
		w.wantInfo()
	}
}

// isReadable tells whether all sectors can be read.
func isReadable(b *bank.Bank) bool {
	for device, size := range b.Sizes() {
		for sector := range size {
			if _, err := b.Read(device, sector); err != nil {
				return false
			}
		}
	}
	return true
}

// use makes calls of all kinds, whatever they tell. What is committed is sound.
func (w *world) use() {
	w.Helper()
	for _, v := range w.p.Info().Volumes {
		w.p.Read(v.Id, 0, 1)
		w.p.Read(v.Id, max(v.Size-3, 0), min(v.Size, 3))
		w.p.Write(v.Id, v.Size-1, of(1))
		w.p.Snapshot(v.Id+1, v.Id)
		w.p.Write(v.Id, 0, of(2))
		w.p.Resize(v.Id, 1+v.Size/2)
		w.p.Discard(v.Id, 0, 1)
	}
	w.p.Create(9, 9)
	w.p.Write(9, 0, of(3))
	w.committed()
	for device := range w.p.Info().Roster.List {
		w.p.Grow(device)
		w.p.Evacuate(device)
	}
	for range 20 {
		if _, err := w.p.Move(); err != nil {
			break
		}
	}
	w.p.Cancel()
	for _, v := range w.p.Info().Volumes {
		w.p.Delete(v.Id)
	}
	w.committed()
}

// TestP22_4Bytes has devices with any bytes.
func TestP22_4Bytes(t *testing.T) {
	next := numbers(3)
	for range 300 {
		b := bank.New()
		for range next.below(4) {
			device, err := b.Add(1 + next.below(20))
			must(t, "Add", err)
			data := make([]byte, 1+next.below(300))
			for i := range data {
				data[i] = byte(next.below(256))
			}
			must(t, "Fill", b.Fill(device, data))
		}
		if agree(t, b) {
			t.Fatal("a pool of any bytes")
		}
	}
}

// framed is a sector with any payload and a sum that is right.
func framed(kind int, payload []byte) []byte {
	sector := make([]byte, api.Sector)
	sector[0], sector[1] = byte(kind), byte(len(payload))
	copy(sector[2:api.Sector-4], payload)
	binary.BigEndian.PutUint32(sector[api.Sector-4:], crc32.ChecksumIEEE(sector[:api.Sector-4]))
	return sector
}

// forger lays pools in which some things are wrong.
type forger struct {
	*testing.T
	numbers
	h hand
	// free are addresses that were not used yet.
	free []int
}

// address is an address that was not used, or now and then any other.
func (f *forger) address() int {
	switch f.below(60) {
	case 0:
		return f.below(4 * api.MaxSectors)
	case 1:
		return []int{1, 2, at(0, 1), at(1, 0), at(2, 3), at(7, 9), 1 << 61, api.MaxDevices * api.MaxSectors}[f.below(8)]
	case 2:
		return at(f.below(2), f.below(40))
	}
	if len(f.free) == 0 {
		return at(0, 2)
	}
	i := f.below(len(f.free))
	addr := f.free[i]
	f.free[i] = f.free[len(f.free)-1]
	f.free = f.free[:len(f.free)-1]
	return addr
}

// tree lays a tree of a Level whose keys are from one number to below another, and tells its root and its least key.
func (f *forger) tree(level, from, to int, value func() int) (root, least int) {
	n := node.Node{Level: level}
	width := (to - from) / 4
	for i := range 1 + f.below(4) {
		low := from + i*width
		if width < 1 || low >= to {
			break
		}
		key, val := low+f.below(width), 0
		if level > 0 {
			val, key = f.tree(level-1, low, low+width, value)
		} else {
			val = value()
		}
		if f.below(90) == 0 {
			key += f.below(5) - 2
		}
		n.Keys, n.Vals = append(n.Keys, max(key, 0)), append(n.Vals, val)
	}
	if f.below(90) == 0 {
		n.Level += f.below(3) - 1
	}
	addr := f.address()
	f.lay(addr, n)
	if len(n.Keys) == 0 {
		return addr, from
	}
	return addr, n.Keys[0]
}

// lay lays a node at an address, if it is one of the bank's and the node is right.
func (f *forger) lay(addr int, n node.Node) {
	sector, err := n.Bytes()
	if err != nil {
		sector = framed(2, []byte{byte(n.Level), byte(len(n.Keys)), 1})
	}
	device, place := space.At(addr)
	f.h.b.Write(device, place, sector)
}

// catalog lays the catalog of some volumes, and tells its root.
func (f *forger) catalog() int {
	var pairs []int
	roots := []int{0}
	for id := 1; id <= 1+f.below(5); id++ {
		size := 1 + f.below(2000)
		root := roots[f.below(len(roots))]
		if f.below(3) > 0 {
			root, _ = f.tree(f.below(3), 0, size, f.address)
			roots = append(roots, root)
		}
		pairs = append(pairs, 4*id, size)
		if root > 0 {
			pairs = append(pairs, 4*id+1, root)
		}
		if f.below(3) == 0 {
			pairs = append(pairs, 4*id+2, 1+f.below(9))
		}
		if f.below(60) == 0 {
			i := f.below(len(pairs)/2) * 2
			pairs[i+f.below(2)] += f.below(5) - 2
		}
	}
	return f.leaves(pairs)
}

// leaves lays pairs as a tree of at most two levels, and tells its root.
func (f *forger) leaves(pairs []int) int {
	upper := node.Node{Level: 1}
	for from := 0; from < len(pairs); from += 14 {
		addr := f.address()
		f.lay(addr, leaf(pairs[from:min(from+14, len(pairs))]...))
		upper.Keys, upper.Vals = append(upper.Keys, pairs[from]), append(upper.Vals, addr)
	}
	if len(upper.Keys) == 1 {
		return upper.Vals[0]
	}
	addr := f.address()
	f.lay(addr, upper)
	return addr
}

// roster is a roster that fits the bank, or nearly.
func (f *forger) roster() roster.Roster {
	list := entries(api.Active, 60, api.Active, 60)
	for device := range list {
		switch f.below(16) {
		case 0:
			list[device].State = api.Draining
		case 1:
			list[device].State = 1 + f.below(3)
			list[device].Size = 3 + f.below(60)
		case 2:
			list[device].Size = 55 + f.below(7)
		}
	}
	if f.below(16) == 0 {
		list = append(list, roster.Entry{State: 1 + f.below(3), Size: 5})
	}
	return roster.Roster{List: list}
}

// TestP22_4Forged has forged superblocks, catalogs and trees, many of which are right but for one thing: Open and Sound agree.
func TestP22_4Forged(t *testing.T) {
	right, wrong := 0, 0
	for seed := range 6000 {
		f := &forger{T: t, numbers: numbers(seed), h: hand{t, banked(t, 60, 60)}}
		for device := range 2 {
			for sector := api.Slots; sector < 60; sector++ {
				f.free = append(f.free, at(device, sector))
			}
		}
		for range 1 + f.below(2) {
			s := super.Super{Gen: 1 + f.below(6), Root: f.catalog(), Roster: f.roster()}
			sector, err := s.Bytes()
			if err != nil {
				continue
			}
			for device := range 2 {
				if f.below(8) > 0 {
					must(t, "Write", f.h.b.Write(device, s.Gen%api.Slots, sector))
				}
			}
		}
		if f.below(20) == 0 {
			must(t, "Bad", f.h.b.Bad(f.below(2), f.below(60), true))
		}
		if f.below(40) == 0 {
			must(t, "Detach", f.h.b.Detach(f.below(2)))
		}
		if agree(t, f.h.b) {
			right++
		} else {
			wrong++
		}
	}
	if right < 1000 || wrong < 1000 {
		t.Fatalf("%d were right, and %d were not: too few to say anything", right, wrong)
	}
}

// TestP22_4Changed has pools of which one page is another node: one pair, or the Level, differs.
func TestP22_4Changed(t *testing.T) {
	next := numbers(5)
	right, wrong := 0, 0
	for range 3000 {
		w := made(t, 40, 40)
		must(t, "Create", w.p.Create(1, 300))
		for at := range 10 {
			w.write(1, at*29, at+1)
		}
		must(t, "Snapshot", w.p.Snapshot(2, 1))
		w.write(2, 29, 7)
		must(t, "Flush", w.p.Flush())
		pages := w.p.Manager().Pages()
		device, sector := space.At(pages[next.below(len(pages))])
		data, err := w.b.Read(device, sector)
		must(t, "Read", err)
		n, err := node.Parse(data)
		must(t, "Parse", err)
		i := next.below(len(n.Keys))
		switch next.below(5) {
		case 0:
			n.Keys[i] += 1 - 2*next.below(2)
		case 1:
			n.Vals[i] += 1 - 2*next.below(2)
		case 2:
			n.Level = next.below(4)
		case 3:
			n.Vals[i] = at(next.below(2), next.below(40))
		case 4:
			n.Keys, n.Vals = n.Keys[:i], n.Vals[:i]
		}
		changed, err := n.Bytes()
		if err != nil {
			continue
		}
		must(t, "Write", w.b.Write(device, sector, changed))
		if agree(t, w.b) {
			right++
		} else {
			wrong++
		}
	}
	if right < 300 || wrong < 300 {
		t.Fatalf("%d were right, and %d were not: too few to say anything", right, wrong)
	}
}

// TestP22_4Harm has pools to which something happened: devices that are detached, filled, bad, and crashes that keep something.
func TestP22_4Harm(t *testing.T) {
	next := numbers(9)
	right, wrong := 0, 0
	for seed := range 400 {
		l := lives(t, 60, 50, 55)
		for range 40 {
			l.run(l.change(&next))
		}
		switch seed % 5 {
		case 0:
			must(t, "Detach", l.b.Detach(next.below(3)))
		case 1:
			must(t, "Fill", l.b.Fill(next.below(3), of(next.below(3))))
		case 2:
			for range 10 {
				must(t, "Bad", l.b.Bad(next.below(3), next.below(50), true))
			}
		case 3:
			must(t, "Write", l.b.Write(next.below(3), next.below(50), of(1)))
		}
		crashes(l.b, next.below(len(keeps)), &next)
		if agree(t, l.b) {
			right++
		} else {
			wrong++
		}
	}
	if right < 80 || wrong < 80 {
		t.Fatalf("%d were right, and %d were not: too few to say anything", right, wrong)
	}
}
