package pool_test

import (
	"bytes"
	"crypto/sha256"
	"fmt"
	"math"
	"reflect"
	"slices"
	"testing"

	"portage/api"
	"portage/bank"
	"portage/mover"
	"portage/pool"
	"portage/refs"
	"portage/space"
	"portage/super"
	"portage/thin"
)

// edges are numbers at the ends of what devices, blocks and counts may be, and past them.
var edges = []int{math.MinInt, math.MinInt + 1, math.MinInt32, -4096, -9, -8, -2, -1, 0, 1, 2, 3, 7, 8, 9, 31, 32, 33, 4095, 4096, 1<<20 - 1, 1 << 20, 1<<20 + 1, math.MaxInt32, 1 << 32, 1 << 60, 1 << 62, math.MaxInt - 1, math.MaxInt}

// enough is more than all steps, and all writes of a call, that these tests need.
const enough = 1000

// world is a pool, and its bank.
type world struct {
	*testing.T
	b *bank.Bank
	p *pool.Pool
}

// must demands that a call is not refused.
func must(t *testing.T, what string, err error) {
	t.Helper()
	if err != nil {
		t.Fatalf("%s: %v", what, err)
	}
}

// wantError demands that err is just this one: the same faults around the same code.
func wantError(t *testing.T, what string, err, want error) {
	t.Helper()
	if !reflect.DeepEqual(err, want) {
		t.Fatalf("%s: %v, not %v", what, err, want)
	}
}

// banked is a bank with devices of so many sectors.
func banked(t *testing.T, sizes ...int) *bank.Bank {
	t.Helper()
	b := bank.New()
	for _, size := range sizes {
		_, err := b.Add(size)
		must(t, "Add", err)
	}
	return b
}

// made is a new pool over devices of so many sectors.
func made(t *testing.T, sizes ...int) *world {
	t.Helper()
	b := banked(t, sizes...)
	p, err := pool.Format(b)
	must(t, "Format", err)
	return &world{T: t, b: b, p: p}
}

// of are blocks, each with bytes of its own; of 0 they are noughts.
func of(list ...int) []byte {
	var data []byte
	for _, c := range list {
		for i := range api.Sector {
			data = append(data, byte(c*(i+1)+c>>8))
		}
	}
	return data
}

// span are so many numbers, from one on.
func span(from, count int) []int {
	var list []int
	for i := range count {
		list = append(list, from+i)
	}
	return list
}

// create lets a volume be there, with what is of these numbers from its first block on.
func (w *world) create(id, size int, list ...int) {
	w.Helper()
	must(w.T, "Create", w.p.Create(id, size))
	for at := 0; at < len(list); at += api.MaxRun {
		w.write(id, at, list[at:min(at+api.MaxRun, len(list))]...)
	}
}

// write lets blocks from one on have what is of these numbers.
func (w *world) write(id, block int, list ...int) {
	w.Helper()
	must(w.T, "Write", w.p.Write(id, block, of(list...)))
}

// want demands that blocks from one on have what is of these numbers.
func (w *world) want(id, block int, list ...int) {
	w.Helper()
	for i, c := range list {
		data, err := w.p.Read(id, block+i, 1)
		must(w.T, "Read", err)
		if !bytes.Equal(data, of(c)) {
			w.Fatalf("the block %d of %d is not of %d", block+i, id, c)
		}
	}
}

// open opens the pool anew.
func (w *world) open() {
	w.Helper()
	p, err := pool.Open(w.b)
	must(w.T, "Open", err)
	w.p = p
}

// crash lets the bank crash, with nothing kept, and opens the pool anew.
func (w *world) crash() {
	w.Helper()
	w.b.Crash()
	w.open()
}

// keepAll lets the bank crash, with all kept that was written.
func keepAll(b *bank.Bank) {
	b.Crash(slices.Repeat([]int{math.MaxInt}, b.Pending())...)
}

// step demands that the next steps do just this.
func (w *world) step(list ...int) {
	w.Helper()
	for _, want := range list {
		did, err := w.p.Move()
		if did != want || err != nil {
			w.Fatalf("Move: %d, %v, not %d", did, err, want)
		}
	}
}

// leave does steps till the device is left, and has a look behind each.
func (w *world) leave(look func(did int)) {
	w.Helper()
	for range enough {
		did, err := w.p.Move()
		must(w.T, "Move", err)
		look(did)
		if did == mover.Empty {
			return
		}
	}
	w.Fatal("the device is never left")
}

// left lets a device be left, from Evacuate on.
func (w *world) left(device int) {
	w.Helper()
	must(w.T, "Evacuate", w.p.Evacuate(device))
	w.leave(func(int) {})
}

// gen is the pool's generation.
func (w *world) gen() int { return w.p.Info().Gen }

// wantGen demands that the pool has a generation, and that the superblock of it counts on all members and is the newest.
func (w *world) wantGen(gen int) {
	w.Helper()
	if got := w.gen(); got != gen {
		w.Fatalf("the generation is %d, not %d", got, gen)
	}
	s, holders, err := super.Read(w.b)
	must(w.T, "Read", err)
	i := w.p.Info()
	if s.Gen != gen || !s.Roster.Same(i.Roster) || !slices.Equal(holders, i.Roster.Members()) {
		w.Fatalf("the newest superblock is %v, of %v, not %v", s, holders, i)
	}
}

// block is where a block is, and what Read tells of it, the bytes as a digest.
type block struct {
	Addr int
	Data string
	Err  error
}

// told is all that a pool tells.
type told struct {
	Info        pool.Info
	Blocks      map[refs.Owner]block
	Data, Pages []int
	Root        int
	// On and Free are of each device, Free the addresses that are neither taken nor given back.
	On, Free [][]int
}

// tells is all that is told.
func (w *world) tells() told {
	m := w.p.Manager()
	x := told{Info: w.p.Info(), Blocks: map[refs.Owner]block{}, Data: m.Data(), Pages: m.Pages(), Root: m.Root()}
	for _, addr := range x.Data {
		for _, o := range m.Owners(addr) {
			data, err := w.p.Read(o.Vol, o.Block, 1)
			x.Blocks[o] = block{m.Map(o.Vol, o.Block), fmt.Sprintf("%.6x", sha256.Sum256(data)), err}
		}
	}
	for device, e := range x.Info.Roster.List {
		x.On = append(x.On, m.Space().On(device))
		x.Free = append(x.Free, free(m.Space(), device, e.Size))
	}
	return x
}

// volumes is what a pool tells of its volumes, with the digest of all that each has.
func (w *world) volumes() map[thin.Info]string {
	w.Helper()
	list := map[thin.Info]string{}
	for _, v := range w.p.Info().Volumes {
		sum := sha256.New()
		for at := 0; at < v.Size; at += api.MaxRun {
			data, err := w.p.Read(v.Id, at, min(api.MaxRun, v.Size-at))
			must(w.T, "Read", err)
			sum.Write(data)
		}
		list[v] = fmt.Sprintf("%.6x", sum.Sum(nil))
	}
	return list
}

// free are the addresses of a device that are neither taken nor given back.
func free(s *space.Space, device, size int) []int {
	var list []int
	for sector := api.Slots; sector < size; sector++ {
		if addr := space.Addr(device, sector); s.Mark(addr) == nil {
			s.Unmark(addr)
			list = append(list, addr)
		}
	}
	return list
}

// wantSame demands that nothing that is told has changed.
func wantSame(t *testing.T, what string, got, want told) {
	t.Helper()
	if !reflect.DeepEqual(got, want) {
		t.Fatalf("%s: %+v, not %+v", what, got, want)
	}
}

// refuses demands that a call tells this error, and changes nothing.
func (w *world) refuses(what string, want error, call func() error) {
	w.Helper()
	before, done, waits := w.tells(), w.b.Done(), w.b.Pending()
	wantError(w.T, what, call(), want)
	wantSame(w.T, what, w.tells(), before)
	if w.b.Done() != done || w.b.Pending() != waits {
		w.Fatalf("%s: something was written", what)
	}
}

// TestExample is the chapter's.
func TestExample(t *testing.T) {
	w := made(t, 50, 50)
	w.wantGen(1)
	w.create(1, 100)
	w.wantGen(2)
	w.write(1, 5, 7)
	keepAll(w.b)
	w.open()
	// It was mapped by a tree that nobody saved.
	w.want(1, 5, 0)
	w.write(1, 5, 7)
	must(t, "Flush", w.p.Flush())
	w.wantGen(3)
	w.crash()
	w.want(1, 5, 7)
	w.write(1, 5, 8)
	keepAll(w.b)
	w.open()
	w.want(1, 5, 8)
	must(t, "Evacuate", w.p.Evacuate(0))
	w.wantGen(4)
	w.leave(func(int) {})
	if w.p.Info().Roster.State(0) != api.Removed {
		t.Fatalf("the device 0 is not Removed: %v", w.p.Info())
	}
}

// TestWhole are the document's ten examples of the whole.
func TestWhole(t *testing.T) {
	w := made(t, 50, 50)
	w.create(1, 100)
	w.wantGen(2)
	wantError(t, "Create", w.p.Create(1, 5), api.ErrExists)

	w.write(1, 5, 'a')
	must(t, "Snapshot", w.p.Snapshot(2, 1))
	w.write(1, 5, 'b')
	w.want(2, 5, 'a')
	w.want(1, 5, 'b')
	if n := w.p.Info().Data; n != 2 {
		t.Fatalf("%d blocks are in use", n)
	}

	wantError(t, "Write", w.p.Write(1, 99, of(1, 2)), api.ErrBlocks)
	wantError(t, "Write", w.p.Write(1, 0, of(1)[:100]), api.ErrLength)
	_, err := w.p.Read(3, 0, 1)
	wantError(t, "Read", err, api.ErrVolume)

	w.write(1, 7, 'c')
	w.crash()
	w.want(1, 7, 0)
	w.want(1, 5, 'a')
	w.write(1, 7, 'c')
	must(t, "Flush", w.p.Flush())
	w.crash()
	w.want(1, 7, 'c')

	for n := range enough {
		w.b.Arm(n)
		err := w.p.Delete(2)
		isDown := w.b.Down()
		keepAll(w.b)
		w.open()
		w.want(1, 5, 'a')
		if list := w.p.Info().Volumes; len(list) == 2 {
			w.want(2, 5, 'a')
		} else if len(list) != 1 {
			t.Fatalf("the volumes are %v", list)
		} else if err == nil {
			break
		} else {
			must(t, "Snapshot", w.p.Snapshot(2, 1))
		}
		if !isDown || err == nil {
			t.Fatalf("Delete: %v", err)
		}
	}

	w.write(1, 0, 1, 2, 3, 4)
	w.write(1, 8, 8, 9)
	before := w.volumes()
	must(t, "Evacuate", w.p.Evacuate(0))
	if w.p.Info().Roster.State(0) != api.Draining || w.p.Info().Leaving != 0 {
		t.Fatalf("Evacuate: %v", w.p.Info())
	}
	w.refuses("Evacuate", api.ErrState, func() error { return w.p.Evacuate(1) })

	w.step(mover.Planned, mover.Read)
	must(t, "Cancel", w.p.Cancel())
	if w.p.Info().Roster.State(0) != api.Active || w.p.Info().Leaving != -1 || w.p.Info().Copies != 0 {
		t.Fatalf("Cancel: %v", w.p.Info())
	}
	if now := w.volumes(); !reflect.DeepEqual(now, before) {
		t.Fatalf("Cancel: %v, not %v", now, before)
	}

	must(t, "Evacuate", w.p.Evacuate(0))
	w.leave(func(int) {})
	if w.p.Info().Roster.State(0) != api.Removed {
		t.Fatalf("Move: %v", w.p.Info())
	}
	must(t, "Fill", w.b.Fill(0, of(77)))
	if now := w.volumes(); !reflect.DeepEqual(now, before) {
		t.Fatalf("Fill: %v, not %v", now, before)
	}

	_, err = w.b.Add(30)
	must(t, "Add", err)
	room := w.p.Info().Room
	must(t, "Add", w.p.Add(2))
	if w.p.Info().Room != room+28 {
		t.Fatalf("Add: the room is %d, and was %d", w.p.Info().Room, room)
	}
	must(t, "Grow", w.b.Grow(2, 5))
	must(t, "Grow", w.p.Grow(2))
	if w.p.Info().Room != room+33 {
		t.Fatalf("Grow: the room is %d, and was %d", w.p.Info().Room, room)
	}
}
