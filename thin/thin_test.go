package thin_test

import (
	"bytes"
	"crypto/sha256"
	"fmt"
	"math"
	"reflect"
	"slices"
	"testing"

	"portage/api"
	"portage/bank"
	"portage/fault"
	"portage/refs"
	"portage/roster"
	"portage/space"
	"portage/thin"
)

// maxId is the greatest Id.
const maxId = 1 << 20

// edges are numbers at the ends of what Ids, Sizes, blocks, counts, devices and addresses may be, and past them.
var edges = []int{math.MinInt, math.MinInt + 1, -1 << 61, math.MinInt32, -maxId - 1, -maxId, -4096, -9, -8, -2, -1, 0, 1, 2, 7, 8, 9, 31, 32, 33, 4095, 4096, 4098, maxId - 1, maxId, maxId + 1, math.MaxInt32, 1 << 32, 1<<32 + 1, 1 << 40, 1 << 61, 1<<61 + 1, 1 << 62, math.MaxInt - 8, math.MaxInt - 1, math.MaxInt}

// world is a manager, and its bank.
type world struct {
	*testing.T
	b *bank.Bank
	m *thin.Manager
}

// must demands that a call is not refused.
func must(t *testing.T, what string, err error) {
	t.Helper()
	if err != nil {
		t.Fatalf("%s: %v", what, err)
	}
}

// wantError demands that err is just this one: the same faults around the same code.
func wantError(t *testing.T, what string, err, want error) {
	t.Helper()
	if !reflect.DeepEqual(err, want) {
		t.Fatalf("%s: %v, not %v", what, err, want)
	}
}

// broken is the fault of a read or a write at an address.
func broken(op string, addr int, code api.Code) error {
	device, sector := space.At(addr)
	return fault.Wrap(op, device, sector, code)
}

// brokenPage is the fault of a page at an address.
func brokenPage(op string, addr int, code api.Code) error {
	device, sector := space.At(addr)
	return fault.Wrap("page", device, sector, broken(op, addr, code))
}

// rostered is a roster of Active devices of so many sectors.
func rostered(sizes ...int) roster.Roster {
	var r roster.Roster
	for _, size := range sizes {
		r.List = append(r.List, roster.Entry{State: api.Active, Size: size})
	}
	return r
}

// over is a manager of this roster over devices of so many sectors, which may be others.
func over(t *testing.T, r roster.Roster, sizes ...int) *world {
	t.Helper()
	b := bank.New()
	for _, size := range sizes {
		_, err := b.Add(size)
		must(t, "Add", err)
	}
	m, err := thin.New(b, r)
	must(t, "New", err)
	return &world{t, b, m}
}

// made is a manager over devices of so many sectors.
func made(t *testing.T, sizes ...int) *world {
	t.Helper()
	return over(t, rostered(sizes...), sizes...)
}

// of are blocks, each with bytes of its own.
func of(list ...int) []byte {
	var data []byte
	for _, c := range list {
		for i := range api.Sector {
			data = append(data, byte(c*(i+1)+c>>8))
		}
	}
	return data
}

// span are so many numbers, from one on.
func span(from, count int) []int {
	var list []int
	for i := range count {
		list = append(list, from+i)
	}
	return list
}

func (w *world) create(id, size int) {
	w.Helper()
	must(w.T, "Create", w.m.Create(id, size))
}

func (w *world) snapshot(id, from int) {
	w.Helper()
	must(w.T, "Snapshot", w.m.Snapshot(id, from))
}

func (w *world) delete(id int) {
	w.Helper()
	must(w.T, "Delete", w.m.Delete(id))
}

func (w *world) resize(id, size int) {
	w.Helper()
	must(w.T, "Resize", w.m.Resize(id, size))
}

// write lets blocks from one on have what is of these numbers.
func (w *world) write(id, block int, list ...int) {
	w.Helper()
	must(w.T, "Write", w.m.Write(id, block, of(list...)))
}

func (w *world) discard(id, block, count int) {
	w.Helper()
	must(w.T, "Discard", w.m.Discard(id, block, count))
}

func (w *world) save() int {
	w.Helper()
	root, err := w.m.Save()
	must(w.T, "Save", err)
	return root
}

func (w *world) begin() {
	w.Helper()
	must(w.T, "Begin", w.m.Begin())
}

func (w *world) commit() {
	w.Helper()
	must(w.T, "Commit", w.m.Commit())
}

func (w *world) back() {
	w.Helper()
	must(w.T, "Back", w.m.Back())
}

// want demands that blocks from one on have what is of these numbers.
func (w *world) want(id, block int, list ...int) {
	w.Helper()
	for at := 0; at < len(list); at += api.MaxRun {
		part := list[at:min(at+api.MaxRun, len(list))]
		data, err := w.m.Read(id, block+at, len(part))
		must(w.T, "Read", err)
		if !bytes.Equal(data, of(part...)) {
			w.Fatalf("the blocks of %d from %d on are not of %v", id, block+at, part)
		}
	}
}

// wantList demands that these are the volumes.
func (w *world) wantList(list ...thin.Info) {
	w.Helper()
	if got := w.m.List(); !slices.Equal(got, list) {
		w.Fatalf("List: %v, not %v", got, list)
	}
}

// wantData demands that blocks are at so many addresses.
func (w *world) wantData(count int) {
	w.Helper()
	if got := w.m.Data(); len(got) != count {
		w.Fatalf("Data: %v, not %d", got, count)
	}
}

// block is where a block is, and what Read tells of it, the bytes as a digest.
type block struct {
	Addr int
	Data string
	Err  error
}

// digest stands for bytes, in a form that can be shown.
func digest(data []byte) string { return fmt.Sprintf("%.6x", sha256.Sum256(data)) }

// told is all that a manager tells.
type told struct {
	List        []thin.Info
	Blocks      map[refs.Owner]block
	Data, Pages []int
	Root        int
	Roster      roster.Roster
	// Used, On and Free are of each device, Free the addresses that may be taken.
	Used     []int
	On, Free [][]int
	Count    int
}

// tells is all that the manager tells.
func (w *world) tells() told {
	w.Helper()
	s := w.m.Space()
	x := told{List: w.m.List(), Blocks: map[refs.Owner]block{}, Data: w.m.Data(), Pages: w.m.Pages(), Root: w.m.Root(), Roster: s.Roster(), Count: s.Free()}
	for _, addr := range x.Data {
		for _, o := range w.m.Owners(addr) {
			data, err := w.m.Read(o.Vol, o.Block, 1)
			x.Blocks[o] = block{w.m.Map(o.Vol, o.Block), digest(data), err}
		}
	}
	for device, e := range x.Roster.List {
		x.Used = append(x.Used, s.Used(device))
		x.On = append(x.On, s.On(device))
		x.Free = append(x.Free, w.free(device, e.Size))
	}
	return x
}

// free are the addresses of a device that are neither taken nor given back.
func (w *world) free(device, size int) []int {
	s := w.m.Space()
	var list []int
	for sector := api.Slots; sector < size; sector++ {
		if addr := space.Addr(device, sector); s.Mark(addr) == nil {
			must(w.T, "Unmark", s.Unmark(addr))
			list = append(list, addr)
		}
	}
	return list
}

// wantSame demands that nothing that is told has changed.
func wantSame(t *testing.T, what string, got, want told) {
	t.Helper()
	if !reflect.DeepEqual(got, want) {
		t.Fatalf("%s: %+v, not %+v", what, got, want)
	}
}

// wantOwn demands that what is taken in the space are just Data and Pages, and these others, and none is there twice.
func (w *world) wantOwn(others ...int) {
	w.Helper()
	var taken []int
	for device := range w.m.Space().Roster().List {
		taken = append(taken, w.m.Space().On(device)...)
	}
	all := slices.Concat(w.m.Data(), w.m.Pages(), others)
	slices.Sort(all)
	if !slices.Equal(all, taken) {
		w.Fatalf("%v are taken, not %v and %v", taken, w.m.Data(), w.m.Pages())
	}
	mapped := 0
	for _, info := range w.m.List() {
		mapped += info.Mapped
	}
	for _, addr := range w.m.Data() {
		mapped -= len(w.m.Owners(addr))
	}
	if mapped != 0 {
		w.Fatalf("%d more are mapped than there are owners", mapped)
	}
}

// wantEmpty demands that nothing is left when all volumes are gone, and that is saved and settled.
func (w *world) wantEmpty(others ...int) {
	w.Helper()
	for _, info := range w.m.List() {
		w.delete(info.Id)
	}
	w.wantData(0)
	w.save()
	w.m.Settle()
	w.wantOwn(others...)
	used := 0
	for device := range w.m.Space().Roster().List {
		used += w.m.Space().Used(device)
	}
	if w.m.Root() != 0 || len(w.m.Pages()) != 0 || used != len(others) {
		w.Fatalf("without volumes the tree is %d, %v are pages, and %d are used", w.m.Root(), w.m.Pages(), used)
	}
}

// refuses demands that a call tells this error, writes nothing, and changes nothing.
func (w *world) refuses(what string, want error, call func() error) {
	w.Helper()
	done := w.b.Done()
	w.fails(what, want, call)
	if w.b.Done() != done {
		w.Fatalf("%s: it is refused, but writes", what)
	}
}

// fails demands that a call tells this error, and changes nothing. What was free may have been written.
func (w *world) fails(what string, want error, call func() error) {
	w.Helper()
	before := w.tells()
	wantError(w.T, what, call(), want)
	wantSame(w.T, what, w.tells(), before)
}

func TestExamples(t *testing.T) {
	w := made(t, 100, 100)
	w.create(1, 100)
	w.write(1, 5, 'a')
	w.snapshot(2, 1)
	w.write(1, 5, 'b')
	w.want(2, 5, 'a')
	w.wantData(2)
	w.delete(2)
	w.wantData(1)
	w.want(1, 5, 'b')
	w.discard(1, 0, 100)
	w.wantData(0)
	w.want(1, 5, 0)
	w.wantOwn()
}

func TestP14_1New(t *testing.T) {
	for _, r := range []roster.Roster{
		{List: []roster.Entry{{State: api.Active, Size: api.Slots}}},
		{List: []roster.Entry{{State: api.Absent, Size: 10}}},
		{List: []roster.Entry{{State: api.Active, Size: api.MaxSectors + 1}}},
		{List: []roster.Entry{{State: 4, Size: 10}}},
		{List: slices.Repeat([]roster.Entry{{State: api.Active, Size: 10}}, api.MaxDevices+1)},
	} {
		m, err := thin.New(bank.New(), r)
		wantError(t, "New", err, api.ErrForm)
		if m != nil {
			t.Error("New tells a manager beside an error")
		}
	}
	for _, sizes := range [][]int{nil, {3}, {10, 20}, slices.Repeat([]int{api.MaxSectors}, api.MaxDevices)} {
		w := made(t, sizes...)
		w.wantList()
		w.wantOwn()
		if r := rostered(sizes...); !w.m.Space().Roster().Same(r) || w.m.Space().Free() != r.Room() || w.m.Root() != 0 || w.b.Done() != 0 {
			t.Errorf("New of %v: %v, %d are free, the tree is %d", sizes, w.m.Space().Roster(), w.m.Space().Free(), w.m.Root())
		}
		wantError(t, "Commit", w.m.Commit(), api.ErrBusy)
	}
}

func TestP14_1Create(t *testing.T) {
	w := made(t, 20)
	w.create(1, 5)
	w.create(maxId, 1)
	w.create(7, api.MaxBlocks)
	for _, id := range edges {
		for _, size := range edges {
			var want error
			switch {
			case id < 1 || id > maxId:
				want = api.ErrVolume
			case size < 1 || size > api.MaxBlocks:
				want = api.ErrBlocks
			case id == 1 || id == 7 || id == maxId:
				want = api.ErrExists
			}
			if want != nil {
				w.refuses("Create", want, func() error { return w.m.Create(id, size) })
				continue
			}
			w.create(id, size)
			w.delete(id)
		}
	}
	w.wantList(thin.Info{Id: 1, Size: 5}, thin.Info{Id: 7, Size: api.MaxBlocks}, thin.Info{Id: maxId, Size: 1})
	w.want(7, api.MaxBlocks-8, 0, 0, 0, 0, 0, 0, 0, 0)
	w.wantEmpty()
}

// TestP14_1Many makes as many volumes as there may be: what else is wrong is told first.
func TestP14_1Many(t *testing.T) {
	w := made(t, 100)
	w.create(1, 9)
	w.write(1, 3, 5)
	for id := 2; id <= api.MaxVolumes; id++ {
		if id%2 == 0 {
			w.create(id, 9)
		} else {
			w.snapshot(id, 1)
		}
	}
	for id, want := range map[int]error{0: api.ErrVolume, maxId + 1: api.ErrVolume, 1: api.ErrExists, 2: api.ErrExists, 32: api.ErrExists, 33: api.ErrMany, maxId: api.ErrMany} {
		w.refuses("Create", want, func() error { return w.m.Create(id, 9) })
		w.refuses("Snapshot", want, func() error { return w.m.Snapshot(id, 1) })
		w.refuses("Snapshot", want, func() error { return w.m.Snapshot(id, 2) })
		w.refuses("Snapshot", api.ErrVolume, func() error { return w.m.Snapshot(id, 33) })
	}
	w.refuses("Create", api.ErrBlocks, func() error { return w.m.Create(33, 0) })
	w.refuses("Create", api.ErrBlocks, func() error { return w.m.Create(1, api.MaxBlocks+1) })
	w.delete(5)
	w.snapshot(maxId, 1)
	w.refuses("Snapshot", api.ErrMany, func() error { return w.m.Snapshot(5, 1) })
	w.delete(maxId)
	w.create(5, 9)
	w.refuses("Create", api.ErrMany, func() error { return w.m.Create(33, 9) })
	w.wantEmpty()
}

func TestP14_1Snapshot(t *testing.T) {
	w := made(t, 60)
	w.create(1, 50)
	w.create(5, 3)
	for _, block := range []int{0, 7, 8, 9, 10, 11, 12, 13, 49} {
		w.write(1, block, block)
	}
	done, pages, data := w.b.Done(), w.m.Pages(), w.m.Data()
	w.snapshot(2, 1)
	w.snapshot(3, 2)
	w.snapshot(4, 5)
	w.wantList(thin.Info{Id: 1, Size: 50, Mapped: 9}, thin.Info{Id: 2, Size: 50, Origin: 1, Mapped: 9}, thin.Info{Id: 3, Size: 50, Origin: 2, Mapped: 9}, thin.Info{Id: 4, Size: 3, Origin: 5}, thin.Info{Id: 5, Size: 3})
	// The tree is the other one's, so that nothing is written, and no page is there more than ahead of it.
	if w.b.Done() != done || !slices.Equal(w.m.Pages(), pages) || !slices.Equal(w.m.Data(), data) {
		t.Fatalf("Snapshot writes, or %v are pages, not %v", w.m.Pages(), pages)
	}
	for block := range 50 {
		if w.m.Map(1, block) != w.m.Map(2, block) || w.m.Map(1, block) != w.m.Map(3, block) {
			t.Fatalf("the block %d is at %d, %d and %d", block, w.m.Map(1, block), w.m.Map(2, block), w.m.Map(3, block))
		}
	}
	// It lives on without the one that it was made of, whose Id stays its Origin.
	w.write(1, 7, 100)
	w.write(2, 8, 200)
	w.delete(1)
	w.delete(2)
	w.wantList(thin.Info{Id: 3, Size: 50, Origin: 2, Mapped: 9}, thin.Info{Id: 4, Size: 3, Origin: 5}, thin.Info{Id: 5, Size: 3})
	w.want(3, 7, 7, 8, 9, 10, 11, 12, 13, 0)
	w.wantOwn()
	w.create(2, 7)
	w.wantList(thin.Info{Id: 2, Size: 7}, thin.Info{Id: 3, Size: 50, Origin: 2, Mapped: 9}, thin.Info{Id: 4, Size: 3, Origin: 5}, thin.Info{Id: 5, Size: 3})
	w.want(2, 0, 0, 0, 0, 0, 0, 0, 0)
	w.wantEmpty()
}

func TestP14_1SnapshotRefused(t *testing.T) {
	w := made(t, 60)
	w.create(1, 50)
	w.create(32, 50)
	w.write(1, 5, 1)
	for _, id := range edges {
		for _, from := range edges {
			var want error
			switch {
			case id < 1 || id > maxId || from != 1 && from != 32:
				want = api.ErrVolume
			case id == 1 || id == 32:
				want = api.ErrExists
			}
			if want != nil {
				w.refuses("Snapshot", want, func() error { return w.m.Snapshot(id, from) })
				continue
			}
			w.snapshot(id, from)
			w.delete(id)
		}
	}
	w.wantEmpty()
}

func TestP14_1Delete(t *testing.T) {
	w := made(t, 60)
	for _, id := range edges {
		w.refuses("Delete", api.ErrVolume, func() error { return w.m.Delete(id) })
	}
	w.create(1, 50)
	w.write(1, 0, span(1, 8)...)
	w.snapshot(2, 1)
	w.write(1, 0, 10, 11)
	w.write(2, 7, 12)
	mine, others, both := []int{w.m.Map(1, 0), w.m.Map(1, 1), w.m.Map(1, 7)}, []int{w.m.Map(2, 0), w.m.Map(2, 1), w.m.Map(2, 7)}, span(2, 5)
	w.wantData(11)
	w.m.Settle()
	free := w.m.Space().Free()
	w.refuses("Delete", api.ErrVolume, func() error { return w.m.Delete(3) })
	w.b.Arm(0)
	pages := len(w.m.Pages())
	w.delete(1)
	pages -= len(w.m.Pages())
	for _, addr := range mine {
		if w.m.Space().Taken(addr) || len(w.m.Owners(addr)) != 0 {
			t.Errorf("%d is taken, and nobody's", addr)
		}
	}
	for _, addr := range others {
		if !w.m.Space().Taken(addr) || !slices.Equal(w.m.Owners(addr), []refs.Owner{{Vol: 2, Block: slices.Index([]int{w.m.Map(2, 0), w.m.Map(2, 1), 0, 0, 0, 0, 0, w.m.Map(2, 7)}, addr)}}) {
			t.Errorf("%d is not what it was: %v", addr, w.m.Owners(addr))
		}
	}
	for _, block := range both {
		if !slices.Equal(w.m.Owners(w.m.Map(2, block)), []refs.Owner{{Vol: 2, Block: block}}) {
			t.Errorf("the block %d: %v", block, w.m.Owners(w.m.Map(2, block)))
		}
	}
	w.b.Arm(-1)
	w.wantData(8)
	w.want(2, 0, 1, 2, 3, 4, 5, 6, 7, 12)
	w.wantOwn()
	// What was given back was settled, so that it is free behind the next Settle.
	if pages == 0 || w.m.Space().Free() != free || w.m.Settle() != 3+pages || w.m.Space().Free() != free+3+pages {
		t.Errorf("%d are free, not %d and 3 and %d", w.m.Space().Free(), free, pages)
	}
	w.refuses("Delete", api.ErrVolume, func() error { return w.m.Delete(1) })
	w.wantEmpty()
}

func TestP14_1Resize(t *testing.T) {
	w := made(t, 90)
	for _, id := range edges {
		w.refuses("Resize", api.ErrVolume, func() error { return w.m.Resize(id, 0) })
		w.refuses("Resize", api.ErrVolume, func() error { return w.m.Resize(id, 5) })
	}
	w.create(1, 20)
	w.write(1, 0, span(1, 8)...)
	w.write(1, 12, span(13, 8)...)
	w.snapshot(2, 1)
	w.write(1, 18, 50)
	for _, size := range edges {
		if size < 1 || size > api.MaxBlocks {
			w.refuses("Resize", api.ErrBlocks, func() error { return w.m.Resize(1, size) })
			w.refuses("Resize", api.ErrVolume, func() error { return w.m.Resize(3, size) })
		}
	}
	before := w.tells()
	w.resize(1, 20)
	wantSame(t, "Resize", w.tells(), before)
	own, shared := w.m.Map(1, 18), w.m.Map(1, 17)
	w.m.Settle()
	w.resize(1, 15)
	if w.m.Space().Taken(own) || len(w.m.Owners(own)) != 0 || !slices.Equal(w.m.Owners(shared), []refs.Owner{{Vol: 2, Block: 17}}) {
		t.Errorf("owners: %v, %v", w.m.Owners(own), w.m.Owners(shared))
	}
	w.wantData(16)
	w.refuses("Read", api.ErrBlocks, func() error { _, err := w.m.Read(1, 15, 1); return err })
	w.wantList(thin.Info{Id: 1, Size: 15, Mapped: 11}, thin.Info{Id: 2, Size: 20, Origin: 1, Mapped: 16})
	// What it had does not come back with its size.
	w.resize(1, api.MaxBlocks)
	w.want(1, 7, 8, 0, 0, 0, 0, 13, 14, 15, 0, 0, 0, 0, 0)
	w.want(1, api.MaxBlocks-2, 0, 0)
	w.want(2, 12, span(13, 8)...)
	w.wantOwn()
	w.write(1, api.MaxBlocks-1, 77)
	w.resize(1, api.MaxBlocks-1)
	w.resize(1, 8)
	w.want(1, 0, span(1, 8)...)
	w.resize(1, 1)
	w.resize(2, 1)
	w.wantData(1)
	w.wantList(thin.Info{Id: 1, Size: 1, Mapped: 1}, thin.Info{Id: 2, Size: 1, Origin: 1, Mapped: 1})
	w.wantOwn()
	w.wantEmpty()
}

// wantBlocks demands which error a call on blocks tells, if it is one of a volume of 20 blocks.
func wantBlocks(block, count, most int) error {
	if count < 1 || count > most || block < 0 || block >= 20 || count > 20-block {
		return api.ErrBlocks
	}
	return nil
}

func TestP14_2ReadRefused(t *testing.T) {
	w := made(t, 60)
	w.create(1, 20)
	w.write(1, 12, span(1, 8)...)
	for _, id := range edges {
		for _, block := range append([]int{11, 12, 13, 18, 19, 20, 21}, edges...) {
			for _, count := range edges {
				want := wantBlocks(block, count, api.MaxRun)
				if id != 1 {
					want = api.ErrVolume
				}
				data, err := w.m.Read(id, block, count)
				wantError(t, "Read", err, want)
				if want != nil && len(data) != 0 || want == nil && len(data) != count*api.Sector {
					t.Fatalf("Read(%d, %d, %d): %d bytes", id, block, count, len(data))
				}
			}
		}
	}
}

func TestP14_2Read(t *testing.T) {
	w := made(t, 60, 40)
	w.create(1, 20)
	w.want(1, 0, slices.Repeat([]int{0}, 20)...)
	for block := 0; block < 20; block += 3 {
		w.write(1, block, block+1)
	}
	for block := range 20 {
		for count := 1; count <= min(api.MaxRun, 20-block); count++ {
			var list []int
			for i := block; i < block+count; i++ {
				if i%3 == 0 {
					list = append(list, i+1)
				} else {
					list = append(list, 0)
				}
			}
			w.want(1, block, list...)
		}
	}
}

// TestP14_2ReadFails reads a sector that cannot be read: just the blocks that are there are refused, with layer 4's fault.
func TestP14_2ReadFails(t *testing.T) {
	w := made(t, 60)
	w.create(1, 20)
	w.write(1, 3, 3, 4, 5)
	w.snapshot(2, 1)
	first, second := w.m.Map(1, 4), w.m.Map(1, 5)
	for _, addr := range []int{first, second} {
		_, sector := space.At(addr)
		must(t, "Bad", w.b.Bad(0, sector, true))
	}
	for _, c := range []struct {
		block, count, addr int
	}{{4, 1, first}, {5, 1, second}, {3, 2, first}, {0, 8, first}, {4, 8, first}, {5, 8, second}} {
		for id := 1; id <= 2; id++ {
			data, err := w.m.Read(id, c.block, c.count)
			wantError(t, "Read", err, broken("read", c.addr, api.ErrRead))
			if len(data) != 0 {
				t.Errorf("Read tells %d bytes beside an error", len(data))
			}
		}
	}
	w.want(1, 3, 3)
	w.want(1, 6, 0, 0)
	// What is bad is written, too; a block that moves may be read again.
	w.write(1, 4, 40)
	w.want(1, 4, 40)
	must(t, "Detach", w.b.Detach(0))
	_, err := w.m.Read(1, 3, 1)
	wantError(t, "Read", err, broken("read", w.m.Map(1, 3), api.ErrGone))
	w.want(1, 6, 0)
	w.b.Arm(0)
	must(t, "Add", func() error { _, err := w.b.Add(5); return err }())
	wantError(t, "Write", w.b.Write(1, 0, of(1)), broken("write", space.Addr(1, 0), api.ErrDown))
	_, err = w.m.Read(1, 3, 1)
	wantError(t, "Read", err, broken("read", w.m.Map(1, 3), api.ErrDown))
}

func TestP14_2WriteRefused(t *testing.T) {
	w := made(t, 80)
	w.create(1, 20)
	w.write(1, 12, span(1, 8)...)
	lengths := []int{0, 1, api.Sector - 1, api.Sector, api.Sector + 1, 3 * api.Sector, 8*api.Sector - 1, 8 * api.Sector, 8*api.Sector + 1, 9 * api.Sector, 16 * api.Sector, 1000 * api.Sector}
	for _, id := range []int{math.MinInt, -1, 0, 1, 2, maxId, maxId + 1, math.MaxInt} {
		for _, block := range append([]int{11, 12, 13, 18, 19, 20, 21}, edges...) {
			for _, length := range lengths {
				count := length / api.Sector
				want := wantBlocks(block, count, api.MaxRun)
				if length%api.Sector != 0 || count < 1 || count > api.MaxRun {
					want = api.ErrLength
				}
				if id != 1 {
					want = api.ErrVolume
				}
				call := func() error { return w.m.Write(id, block, make([]byte, length)) }
				if want == nil {
					must(t, "Write", call())
				} else {
					w.refuses("Write", want, call)
				}
			}
		}
	}
	w.refuses("Write", api.ErrLength, func() error { return w.m.Write(1, 0, nil) })
	w.refuses("Write", api.ErrVolume, func() error { return w.m.Write(2, 0, nil) })
	w.wantOwn()
	w.wantEmpty()
}

func TestP14_2Write(t *testing.T) {
	for count := 1; count <= api.MaxRun; count++ {
		for block := 0; block+count <= 20; block++ {
			w := made(t, 60, 40)
			w.create(1, 20)
			w.write(1, 5, 55, 56)
			w.write(1, 10, 60)
			w.write(1, block, span(1, count)...)
			var list []int
			mapped := 0
			for i := range 20 {
				c := map[int]int{5: 55, 6: 56, 10: 60}[i]
				if i >= block && i < block+count {
					c = i - block + 1
				}
				if list = append(list, c); c != 0 {
					mapped++
				}
			}
			w.want(1, 0, list...)
			w.wantList(thin.Info{Id: 1, Size: 20, Mapped: mapped})
			w.wantData(mapped)
			w.wantOwn()
		}
	}
}

func TestP14_2DiscardRefused(t *testing.T) {
	w := made(t, 80)
	w.create(1, 20)
	w.write(1, 12, span(1, 8)...)
	for _, id := range edges {
		for _, block := range append([]int{11, 12, 13, 18, 19, 20, 21}, edges...) {
			for _, count := range append([]int{20, 21}, edges...) {
				want := wantBlocks(block, count, maxId)
				if id != 1 {
					want = api.ErrVolume
				}
				if want != nil {
					wantError(t, "Discard", w.m.Discard(id, block, count), want)
				}
			}
		}
	}
	w.wantData(8)
	w.create(maxId, api.MaxBlocks)
	w.refuses("Discard", api.ErrBlocks, func() error { return w.m.Discard(maxId, 0, maxId+1) })
	w.refuses("Discard", api.ErrBlocks, func() error { return w.m.Discard(maxId, 1, maxId) })
	w.write(maxId, api.MaxBlocks-1, 5)
	w.write(maxId, 0, 5)
	w.discard(maxId, 0, maxId)
	w.wantData(8)
	w.wantOwn()
}

func TestP14_2Discard(t *testing.T) {
	for count := 1; count <= 20; count++ {
		for block := 0; block+count <= 20; block++ {
			w := made(t, 60, 60)
			w.create(1, 20)
			for at := 0; at < 20; at += 2 {
				w.write(1, at, at+1)
			}
			w.snapshot(2, 1)
			w.write(1, 4, 100)
			list := make([]int, 20)
			mapped := 0
			for i := range 20 {
				if i%2 == 0 && (i < block || i >= block+count) {
					list[i] = i + 1
					mapped++
				}
				if i == 4 && list[i] != 0 {
					list[i] = 100
				}
			}
			w.discard(1, block, count)
			w.want(1, 0, list...)
			w.want(2, 0, 1, 0, 3, 0, 5, 0, 7, 0, 9, 0, 11, 0, 13, 0, 15, 0, 17, 0, 19, 0)
			for i := range count {
				if w.m.Map(1, block+i) != 0 {
					t.Fatalf("the block %d is mapped", block+i)
				}
			}
			w.wantList(thin.Info{Id: 1, Size: 20, Mapped: mapped}, thin.Info{Id: 2, Size: 20, Origin: 1, Mapped: 10})
			w.wantOwn()
			// Where nothing is mapped nothing is written.
			before, done := w.tells(), w.b.Done()
			w.discard(1, block, count)
			wantSame(t, "Discard", w.tells(), before)
			if w.b.Done() != done {
				t.Fatalf("Discard of what is not mapped writes")
			}
		}
	}
}

// TestP14_4Told asks a manager for what there is not, at any numbers.
func TestP14_4Told(t *testing.T) {
	w := made(t, 60, 40)
	w.create(1, 20)
	w.write(1, 3, 3)
	for _, id := range edges {
		for _, block := range edges {
			if got := w.m.Map(id, block); got != 0 {
				t.Errorf("Map(%d, %d): %d", id, block, got)
			}
		}
	}
	for _, addr := range edges {
		if got := w.m.Owners(addr); len(got) != 0 && addr != w.m.Map(1, 3) {
			t.Errorf("Owners(%d): %v", addr, got)
		}
	}
	if got := w.m.Owners(w.m.Map(1, 3)); !slices.Equal(got, []refs.Owner{{Vol: 1, Block: 3}}) {
		t.Errorf("Owners: %v", got)
	}
}

func TestP14_4Lists(t *testing.T) {
	w := made(t, 60, 40)
	w.wantList()
	w.create(5, 20)
	w.create(2, 30)
	w.create(maxId, 1)
	w.write(5, 3, span(1, 8)...)
	w.write(2, 29, 1)
	w.snapshot(3, 5)
	w.snapshot(1, 3)
	w.write(3, 4, 9)
	w.wantList(thin.Info{Id: 1, Size: 20, Origin: 3, Mapped: 8}, thin.Info{Id: 2, Size: 30, Mapped: 1}, thin.Info{Id: 3, Size: 20, Origin: 5, Mapped: 8}, thin.Info{Id: 5, Size: 20, Mapped: 8}, thin.Info{Id: maxId, Size: 1})
	w.wantData(10)
	if got := w.m.Owners(w.m.Map(1, 4)); !slices.Equal(got, []refs.Owner{{Vol: 1, Block: 4}, {Vol: 5, Block: 4}}) {
		t.Errorf("Owners: %v", got)
	}
	if got := w.m.Owners(w.m.Map(1, 5)); !slices.Equal(got, []refs.Owner{{Vol: 1, Block: 5}, {Vol: 3, Block: 5}, {Vol: 5, Block: 5}}) {
		t.Errorf("Owners: %v", got)
	}
	var addrs []int
	for _, id := range []int{1, 2, 3, 5} {
		for at := range 30 {
			if addr := w.m.Map(id, at); addr != 0 {
				addrs = append(addrs, addr)
			}
		}
	}
	slices.Sort(addrs)
	if got := w.m.Data(); !slices.Equal(got, slices.Compact(addrs)) {
		t.Errorf("Data: %v, not %v", got, slices.Compact(addrs))
	}
	if !slices.IsSorted(w.m.Pages()) || len(w.m.Pages()) == 0 {
		t.Errorf("Pages: %v", w.m.Pages())
	}
	w.wantOwn()
	pages := w.m.Pages()
	w.save()
	if len(w.m.Pages()) <= len(pages) {
		t.Errorf("Pages behind Save: %v", w.m.Pages())
	}
	w.wantOwn()
	if w.m.Space() != w.m.Space() || w.m.Space().Free() != 96-len(w.m.Data())-len(w.m.Pages()) {
		t.Errorf("%d are free", w.m.Space().Free())
	}
	w.wantEmpty()
}
