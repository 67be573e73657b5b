package disk_test

import (
	"bytes"
	"errors"
	"math"
	"slices"
	"testing"

	"portage/api"
	"portage/disk"
	"portage/fault"
)

// edges are numbers that a call may be handed at its worst.
var edges = []int{math.MinInt, math.MinInt + 1, math.MinInt32, -api.MaxSectors, -2, -1, api.MaxSectors + 1, math.MaxInt32, math.MaxInt - 1, math.MaxInt}

// of is a sector full of one byte.
func of(c byte) []byte { return bytes.Repeat([]byte{c}, api.Sector) }

// counting is a sector, no two neighbours of which are alike.
func counting(from int) []byte {
	b := make([]byte, api.Sector)
	for i := range b {
		b[i] = byte(from + i)
	}
	return b
}

// fresh is a disk of so many sectors.
func fresh(t *testing.T, sectors int) *disk.Disk {
	t.Helper()
	d, err := disk.New(sectors)
	if err != nil || d == nil || d.Size() != sectors {
		t.Fatalf("New(%d): %v, %v", sectors, d, err)
	}
	return d
}

// write writes to a sector that takes it.
func write(t *testing.T, d *disk.Disk, i int, data []byte) {
	t.Helper()
	if err := d.Write(i, data); err != nil {
		t.Fatalf("Write(%d): %v", i, err)
	}
}

// wantCode demands that err is just that code, and no fault around it.
func wantCode(t *testing.T, what string, err error, code api.Code) {
	t.Helper()
	if err != error(code) || !errors.Is(err, code) || fault.Depth(err) != 0 {
		t.Errorf("%s: %v, not %v", what, err, code)
	}
}

// wantRead demands what a sector tells.
func wantRead(t *testing.T, d *disk.Disk, i int, want []byte) {
	t.Helper()
	if b, err := d.Read(i); err != nil || !bytes.Equal(b, want) {
		t.Errorf("Read(%d): %x, %v, not %x", i, b, err, want)
	}
}

// wantNoRead demands that a sector tells a code, and nothing beside it.
func wantNoRead(t *testing.T, d *disk.Disk, i int, code api.Code) {
	t.Helper()
	b, err := d.Read(i)
	wantCode(t, "Read", err, code)
	if len(b) != 0 {
		t.Errorf("Read(%d) tells %x beside an error", i, b)
	}
}

// wantBytes demands that the sectors, from the first on, are full of these bytes, and that there are no other ones.
func wantBytes(t *testing.T, d *disk.Disk, want ...byte) {
	t.Helper()
	if d.Size() != len(want) {
		t.Errorf("Size: %d, not %d", d.Size(), len(want))
		return
	}
	for i, c := range want {
		wantRead(t, d, i, of(c))
	}
}

// wantPending demands which sectors have something that waits.
func wantPending(t *testing.T, d *disk.Disk, want ...int) {
	t.Helper()
	if p := d.Pending(); !slices.Equal(p, want) {
		t.Errorf("Pending: %v, not %v", p, want)
	}
}

func TestP3_1New(t *testing.T) {
	for _, n := range []int{1, 2, 3, 100, api.MaxSectors - 1, api.MaxSectors} {
		d := fresh(t, n)
		wantPending(t, d)
		for i := range n {
			wantRead(t, d, i, of(0))
		}
		wantNoRead(t, d, n, api.ErrRange)
	}
}

func TestP3_1NewRefused(t *testing.T) {
	for _, n := range append(edges, 0) {
		d, err := disk.New(n)
		wantCode(t, "New", err, api.ErrRange)
		if d != nil {
			t.Errorf("New(%d) tells a disk beside an error", n)
		}
	}
}

func TestP3_1Grow(t *testing.T) {
	d := fresh(t, 1)
	size := 1
	for _, more := range []int{1, 2, 50, api.MaxSectors - 55, 1} {
		if err := d.Grow(more); err != nil {
			t.Fatalf("Grow(%d) of %d: %v", more, size, err)
		}
		size += more
		if d.Size() != size {
			t.Fatalf("Size: %d, not %d", d.Size(), size)
		}
		wantRead(t, d, size-more, of(0))
		wantRead(t, d, size-1, of(0))
		wantNoRead(t, d, size, api.ErrRange)
	}
	for i := range size {
		wantRead(t, d, i, of(0))
	}
	if size != api.MaxSectors {
		t.Fatalf("the disk grew to %d, not to just MaxSectors", size)
	}
	wantCode(t, "Grow of a full disk", d.Grow(1), api.ErrRange)
}

func TestP3_1GrowRefused(t *testing.T) {
	for _, size := range []int{1, 3, api.MaxSectors - 1, api.MaxSectors} {
		d := fresh(t, size)
		write(t, d, 0, of('a'))
		for _, more := range append(edges, 0, api.MaxSectors-size+1, api.MaxSectors, math.MaxInt-size+1) {
			wantCode(t, "Grow", d.Grow(more), api.ErrRange)
			if d.Size() != size {
				t.Fatalf("Grow(%d) is refused, but Size is %d, not %d", more, d.Size(), size)
			}
		}
		wantRead(t, d, 0, of('a'))
		wantPending(t, d, 0)
		wantNoRead(t, d, size, api.ErrRange)
	}
}

func TestP3_1GrowIsForGood(t *testing.T) {
	d := fresh(t, 2)
	write(t, d, 1, of('a'))
	if err := d.Grow(2); err != nil {
		t.Fatal(err)
	}
	wantPending(t, d, 1)
	wantBytes(t, d, 0, 'a', 0, 0)
	d.Crash()
	wantBytes(t, d, 0, 0, 0, 0)
	write(t, d, 3, of('b'))
	d.Crash()
	wantBytes(t, d, 0, 0, 0, 0)
}

func TestP3_1GrowKeepsWhatIsThere(t *testing.T) {
	d := fresh(t, 3)
	for i := range 3 {
		write(t, d, i, of(byte('a'+i)))
	}
	d.Flush()
	write(t, d, 0, of('x'))
	if d.Bad(1, true) != nil || d.Grow(api.MaxSectors-3) != nil {
		t.Fatal("Bad or Grow")
	}
	wantRead(t, d, 0, of('x'))
	wantNoRead(t, d, 1, api.ErrRead)
	wantRead(t, d, 2, of('c'))
	d.Crash()
	wantRead(t, d, 0, of('a'))
}

func TestP3_2ReadTellsTheLastWrite(t *testing.T) {
	d := fresh(t, 3)
	for n := range 5 {
		write(t, d, 1, counting(n))
		wantRead(t, d, 1, counting(n))
	}
	d.Flush()
	wantRead(t, d, 1, counting(4))
	write(t, d, 1, of(0))
	wantRead(t, d, 1, of(0))
	wantRead(t, d, 0, of(0))
	wantRead(t, d, 2, of(0))
}

func TestP3_2NoSuchSector(t *testing.T) {
	for _, size := range []int{1, 3, api.MaxSectors} {
		d := fresh(t, size)
		for _, i := range append(edges, size, size+1) {
			wantNoRead(t, d, i, api.ErrRange)
			wantCode(t, "Write", d.Write(i, of('a')), api.ErrRange)
			wantCode(t, "Bad", d.Bad(i, true), api.ErrRange)
			wantCode(t, "Bad", d.Bad(i, false), api.ErrRange)
		}
		wantPending(t, d)
		wantRead(t, d, 0, of(0))
		wantRead(t, d, size-1, of(0))
	}
}

func TestP3_2DataOfAnotherSize(t *testing.T) {
	d := fresh(t, 2)
	write(t, d, 1, of('a'))
	wantCode(t, "Write of nil", d.Write(1, nil), api.ErrSize)
	for _, n := range []int{0, 1, api.Sector - 1, api.Sector + 1, 2 * api.Sector, 1 << 16} {
		wantCode(t, "Write of another size", d.Write(1, make([]byte, n)), api.ErrSize)
		wantCode(t, "Write of another size", d.Write(0, make([]byte, n, n+api.Sector)), api.ErrSize)
	}
	wantBytes(t, d, 0, 'a')
	wantPending(t, d, 1)
	if n := d.Waiting(1); n != 1 {
		t.Errorf("Waiting: %d: what was refused waits", n)
	}
}

func TestP3_2ErrorsInTheirOrder(t *testing.T) {
	d := fresh(t, 2)
	for _, i := range []int{-1, 2, math.MaxInt} {
		wantCode(t, "no such sector and another size", d.Write(i, of(1)[1:]), api.ErrRange)
		wantCode(t, "no such sector and another size", d.Write(i, append(of(1), 1)), api.ErrRange)
	}
	if err := d.Bad(1, true); err != nil {
		t.Fatal(err)
	}
	wantCode(t, "a bad sector and another size", d.Write(1, nil), api.ErrSize)
}

func TestP3_2BadSectors(t *testing.T) {
	d := fresh(t, 3)
	write(t, d, 1, of('a'))
	if err := d.Bad(1, true); err != nil {
		t.Fatal(err)
	}
	wantNoRead(t, d, 1, api.ErrRead)
	wantRead(t, d, 0, of(0))
	wantRead(t, d, 2, of(0))
	write(t, d, 1, of('b'))
	wantNoRead(t, d, 1, api.ErrRead)
	if n := d.Waiting(1); n != 2 {
		t.Errorf("Waiting of a bad sector: %d, not 2", n)
	}
	for _, on := range []bool{true, true, false, false} {
		if err := d.Bad(1, on); err != nil {
			t.Errorf("Bad(1, %t): %v", on, err)
		}
	}
	wantRead(t, d, 1, of('b'))
	d.Crash(1)
	wantRead(t, d, 1, of('a'))
}

func TestP3_2BadSectorsStayBad(t *testing.T) {
	d := fresh(t, 2)
	if err := d.Bad(0, true); err != nil {
		t.Fatal(err)
	}
	write(t, d, 0, of('a'))
	d.Flush()
	wantNoRead(t, d, 0, api.ErrRead)
	write(t, d, 0, of('b'))
	d.Crash(1)
	wantNoRead(t, d, 0, api.ErrRead)
	if err := d.Grow(1); err != nil {
		t.Fatal(err)
	}
	wantNoRead(t, d, 0, api.ErrRead)
	wantRead(t, d, 2, of(0))
	if err := d.Bad(0, false); err != nil {
		t.Fatal(err)
	}
	wantBytes(t, d, 'b', 0, 0)
}

func TestP3_3Flush(t *testing.T) {
	d := fresh(t, 5)
	if n := d.Flush(); n != 0 {
		t.Errorf("Flush with nothing that waits: %d", n)
	}
	for _, i := range []int{3, 1, 3, 3} {
		write(t, d, i, of(byte('a'+i)))
	}
	write(t, d, 3, of('z'))
	if n := d.Flush(); n != 2 {
		t.Errorf("Flush: %d, not 2", n)
	}
	if n := d.Flush(); n != 0 {
		t.Errorf("Flush once more: %d", n)
	}
	wantPending(t, d)
	for i := range 5 {
		if n := d.Waiting(i); n != 0 {
			t.Errorf("Waiting(%d) behind a flush: %d", i, n)
		}
	}
	wantBytes(t, d, 0, 'b', 0, 'z', 0)
	d.Crash(1, 1, 1, 1, 1)
	wantBytes(t, d, 0, 'b', 0, 'z', 0)
}

func TestP3_3PendingRises(t *testing.T) {
	for _, order := range [][]int{{0}, {9, 8, 7, 6, 5, 4, 3, 2, 1, 0}, {4, 4, 4}, {2, 7, 2, 0, 9, 7, 2}, {5, 9, 0, 5}} {
		d := fresh(t, 10)
		for _, i := range order {
			write(t, d, i, of('a'))
		}
		for i := range 10 {
			want := 0
			for _, x := range order {
				if x == i {
					want++
				}
			}
			if n := d.Waiting(i); n != want {
				t.Errorf("%v: Waiting(%d): %d, not %d", order, i, n, want)
			}
		}
		distinct := slices.Compact(slices.Sorted(slices.Values(order)))
		wantPending(t, d, distinct...)
		if n := d.Flush(); n != len(distinct) {
			t.Errorf("%v: Flush: %d", order, n)
		}
	}
}

func TestP3_3PendingOfAll(t *testing.T) {
	d := fresh(t, api.MaxSectors)
	want := make([]int, api.MaxSectors)
	for i := range want {
		want[i] = i
		write(t, d, i*2731%api.MaxSectors, of('a'))
	}
	wantPending(t, d, want...)
	if n := d.Flush(); n != api.MaxSectors {
		t.Errorf("Flush: %d", n)
	}
}

func TestP3_3WaitingOfNoSuchSector(t *testing.T) {
	d := fresh(t, 3)
	for i := range 3 {
		write(t, d, i, of('a'))
	}
	for _, i := range append(edges, 3, 4) {
		if n := d.Waiting(i); n != 0 {
			t.Errorf("Waiting(%d): %d", i, n)
		}
	}
	wantPending(t, d, 0, 1, 2)
}

func TestP3_3SameBytesWaitToo(t *testing.T) {
	d := fresh(t, 1)
	write(t, d, 0, of(0))
	write(t, d, 0, of(0))
	if n := d.Waiting(0); n != 2 {
		t.Errorf("Waiting: %d, not 2", n)
	}
	if n := d.Flush(); n != 1 {
		t.Errorf("Flush: %d, not 1", n)
	}
}

func TestP3_4Example(t *testing.T) {
	for _, c := range []struct {
		picks []int
		want  byte
	}{{[]int{1}, 'a'}, {nil, 0}} {
		d := fresh(t, 3)
		write(t, d, 1, of('a'))
		write(t, d, 1, of('b'))
		if n := d.Waiting(1); n != 2 {
			t.Errorf("Waiting(1): %d", n)
		}
		wantRead(t, d, 1, of('b'))
		d.Crash(c.picks...)
		wantBytes(t, d, 0, c.want, 0)
	}
}

func TestP3_4Picks(t *testing.T) {
	for _, c := range []struct {
		picks []int
		want  [4]byte
	}{
		{nil, [4]byte{'a', 'b', 'c', 'd'}},
		{[]int{0}, [4]byte{'a', 'b', 'c', 'd'}},
		{[]int{1}, [4]byte{'1', 'b', 'c', 'd'}},
		{[]int{1, 1, 1}, [4]byte{'1', 'b', '3', '6'}},
		{[]int{-1, 2, 0}, [4]byte{'a', 'b', '4', 'd'}},
		{[]int{2, 3, 2}, [4]byte{'2', 'b', '5', '6'}},
		{[]int{3, 4, 7}, [4]byte{'2', 'b', '5', '6'}},
		{[]int{0, 0, 1, 1, 1}, [4]byte{'a', 'b', 'c', '6'}},
		{[]int{0, 0, 0, 1, 1, 1}, [4]byte{'a', 'b', 'c', 'd'}},
		{[]int{math.MaxInt, math.MinInt, math.MaxInt}, [4]byte{'2', 'b', 'c', '6'}},
		{[]int{math.MinInt, math.MaxInt}, [4]byte{'a', 'b', '5', 'd'}},
		{make([]int, 1<<16), [4]byte{'a', 'b', 'c', 'd'}},
	} {
		d := fresh(t, 4)
		for i := range 4 {
			write(t, d, i, of('x'))
			write(t, d, i, of(byte('a'+i)))
		}
		d.Flush()
		// The sectors are not written in their order, to tell Pending's order from the writes'.
		for _, w := range []struct {
			at int
			b  byte
		}{{3, '6'}, {2, '3'}, {0, '1'}, {2, '4'}, {0, '2'}, {2, '5'}} {
			write(t, d, w.at, of(w.b))
		}
		wantPending(t, d, 0, 2, 3)
		d.Crash(c.picks...)
		wantBytes(t, d, c.want[:]...)
		wantPending(t, d)
		for i := range 4 {
			if n := d.Waiting(i); n != 0 {
				t.Errorf("Waiting(%d) behind a crash: %d", i, n)
			}
		}
		if n := d.Flush(); n != 0 {
			t.Errorf("Flush behind a crash: %d", n)
		}
		d.Crash(1, 1, 1, 1)
		wantBytes(t, d, c.want[:]...)
	}
}

func TestP3_4WhatACrashLeavesIsForGood(t *testing.T) {
	d := fresh(t, 1)
	for _, b := range []byte{'a', 'b', 'c'} {
		write(t, d, 0, of(b))
	}
	d.Crash(2)
	write(t, d, 0, of('d'))
	d.Crash(0)
	wantBytes(t, d, 'b')
	write(t, d, 0, of('e'))
	d.Crash(2)
	wantBytes(t, d, 'e')
}

func TestP3_4FlushAhead(t *testing.T) {
	d := fresh(t, 2)
	write(t, d, 0, of('a'))
	write(t, d, 0, of('b'))
	d.Flush()
	d.Crash(1)
	wantBytes(t, d, 'b', 0)
	write(t, d, 1, of('c'))
	d.Crash(1)
	wantBytes(t, d, 'b', 'c')
}

func TestP3_4CrashWithNothingThatWaits(t *testing.T) {
	d := fresh(t, 2)
	d.Crash()
	d.Crash(1, 2, 3)
	wantBytes(t, d, 0, 0)
	wantPending(t, d)
}

func TestP3_4GrowWhileSomethingWaits(t *testing.T) {
	for _, c := range []struct {
		picks []int
		want  []byte
	}{
		{nil, []byte{0, 0, 0, 0}},
		{[]int{1, 1}, []byte{0, 'a', 0, 'c'}},
		{[]int{2}, []byte{0, 'b', 0, 0}},
		{[]int{0, 1}, []byte{0, 0, 0, 'c'}},
	} {
		d := fresh(t, 2)
		write(t, d, 1, of('a'))
		if err := d.Grow(2); err != nil {
			t.Fatal(err)
		}
		write(t, d, 3, of('c'))
		write(t, d, 1, of('b'))
		wantPending(t, d, 1, 3)
		d.Crash(c.picks...)
		wantBytes(t, d, c.want...)
	}
}

func TestP3_5Fill(t *testing.T) {
	for _, n := range []int{0, 1, 2, 3, 7, 64, api.Sector - 1, api.Sector, api.Sector + 1, 300, 3 * api.Sector, 4 * api.Sector, 5000} {
		b := make([]byte, n)
		for i := range b {
			b[i] = byte(1 + i%251)
		}
		d := fresh(t, 3)
		write(t, d, 0, of('a'))
		d.Flush()
		write(t, d, 2, of('b'))
		write(t, d, 2, of('c'))
		if d.Bad(1, true) != nil || d.Bad(2, true) != nil {
			t.Fatal("Bad")
		}
		d.Fill(b)
		want := make([]byte, 3*api.Sector)
		for i := range want {
			if n > 0 {
				want[i] = b[i%n]
			}
		}
		wantPending(t, d)
		if w := d.Waiting(2); w != 0 || d.Size() != 3 {
			t.Errorf("Fill of %d bytes: Waiting %d, Size %d", n, w, d.Size())
		}
		for range 2 {
			for i := range 3 {
				wantRead(t, d, i, want[i*api.Sector:(i+1)*api.Sector])
			}
			d.Crash(1, 1, 1)
		}
		if w := d.Flush(); w != 0 {
			t.Errorf("Flush behind Fill of %d bytes: %d", n, w)
		}
	}
}

func TestP3_5FillIsWhatACrashGoesBackTo(t *testing.T) {
	d := fresh(t, 2)
	write(t, d, 0, of('a'))
	d.Flush()
	d.Fill([]byte{'f'})
	write(t, d, 0, of('b'))
	wantBytes(t, d, 'b', 'f')
	d.Crash()
	wantBytes(t, d, 'f', 'f')
	if d.Grow(1) != nil {
		t.Fatal("Grow")
	}
	wantBytes(t, d, 'f', 'f', 0)
	d.Fill(nil)
	wantBytes(t, d, 0, 0, 0)
}

func TestP3_5FillOfAWholeDisk(t *testing.T) {
	d := fresh(t, api.MaxSectors)
	d.Fill([]byte{1, 2, 3, 4, 5})
	for i := range api.MaxSectors {
		b, err := d.Read(i)
		if err != nil || len(b) != api.Sector {
			t.Fatalf("Read(%d): %x, %v", i, b, err)
		}
		for j, c := range b {
			if want := byte((i*api.Sector+j)%5 + 1); c != want {
				t.Fatalf("Read(%d): %d at %d, not %d", i, c, j, want)
			}
		}
	}
}

// roomy is a copy of b with spare room, filled with 0xee.
func roomy(b []byte) []byte {
	all := bytes.Repeat([]byte{0xee}, len(b)+16)
	copy(all, b)
	return all[:len(b)]
}

// overwrite turns every bit of b, its spare room too.
func overwrite(b []byte) {
	all := b[:cap(b)]
	for i := range all {
		all[i] = ^all[i]
	}
}

func TestP3_6WhatIsWrittenIsNotKept(t *testing.T) {
	data := roomy(of('a'))
	kept := bytes.Clone(data[:cap(data)])
	for _, settle := range []func(d *disk.Disk){
		func(d *disk.Disk) {},
		func(d *disk.Disk) { d.Flush() },
		func(d *disk.Disk) { d.Crash(1, 1) },
	} {
		d := fresh(t, 2)
		write(t, d, 0, data)
		write(t, d, 1, data)
		settle(d)
		if !bytes.Equal(data[:cap(data)], kept) {
			t.Errorf("what is handed in is changed: %x", data[:cap(data)])
		}
		overwrite(data)
		wantBytes(t, d, 'a', 'a')
		d.Flush()
		wantBytes(t, d, 'a', 'a')
		overwrite(data)
	}
}

func TestP3_6WritesOfOneMemory(t *testing.T) {
	d := fresh(t, 1)
	data := of('a')
	write(t, d, 0, data)
	copy(data, of('b'))
	write(t, d, 0, data)
	copy(data, of('c'))
	wantBytes(t, d, 'b')
	d.Crash(1)
	wantBytes(t, d, 'a')
}

func TestP3_6WhatIsFilledIsNotKept(t *testing.T) {
	for _, n := range []int{0, 1, 3, api.Sector, 2 * api.Sector} {
		d := fresh(t, 2)
		b := roomy(bytes.Repeat([]byte{'f'}, n))
		kept := bytes.Clone(b[:cap(b)])
		d.Fill(b)
		if !bytes.Equal(b[:cap(b)], kept) {
			t.Errorf("Fill changes its argument: %x", b[:cap(b)])
		}
		overwrite(b)
		want := byte('f')
		if n == 0 {
			want = 0
		}
		wantBytes(t, d, want, want)
		write(t, d, 0, of('a'))
		d.Flush()
		wantBytes(t, d, 'a', want)
	}
}

func TestP3_6PicksAreNotChanged(t *testing.T) {
	picks := []int{1, 9, -4, 7, 7}[:3]
	d := fresh(t, 4)
	for i := range 4 {
		write(t, d, i, of('a'))
	}
	d.Crash(picks...)
	if all := picks[:cap(picks)]; !slices.Equal(all, []int{1, 9, -4, 7, 7}) {
		t.Errorf("Crash changes the picks: %v", all)
	}
	wantBytes(t, d, 'a', 'a', 0, 0)
}

func TestP3_6WhatIsReadIsNew(t *testing.T) {
	d := fresh(t, 3)
	write(t, d, 0, of('a'))
	d.Flush()
	write(t, d, 1, of('b'))
	for i, c := range []byte{'a', 'b', 0} {
		first, err := d.Read(i)
		second, err2 := d.Read(i)
		if err != nil || err2 != nil {
			t.Fatalf("Read(%d): %v, %v", i, err, err2)
		}
		overwrite(first)
		if !bytes.Equal(second, of(c)) {
			t.Errorf("two answers of Read(%d) share memory: %x", i, second)
		}
		wantBytes(t, d, 'a', 'b', 0)
	}
	d.Crash(1)
	wantBytes(t, d, 'a', 'b', 0)
}

func TestP3_6WhatIsReadStays(t *testing.T) {
	d := fresh(t, 2)
	write(t, d, 0, of('a'))
	waits, _ := d.Read(0)
	d.Flush()
	lasts, _ := d.Read(0)
	write(t, d, 0, of('b'))
	d.Flush()
	d.Fill([]byte{'c'})
	d.Crash()
	if !bytes.Equal(waits, of('a')) || !bytes.Equal(lasts, of('a')) {
		t.Errorf("what was told is changed: %x, %x", waits, lasts)
	}
}

func TestP3_6PendingIsNew(t *testing.T) {
	d := fresh(t, 9)
	for _, i := range []int{8, 2, 5} {
		write(t, d, i, of('a'))
	}
	first, second := d.Pending(), d.Pending()
	all := first[:cap(first)]
	for i := range all {
		all[i] = -1
	}
	if !slices.Equal(second, []int{2, 5, 8}) {
		t.Errorf("two answers of Pending share memory: %v", second)
	}
	wantPending(t, d, 2, 5, 8)
	d.Crash(1, 1)
	wantBytes(t, d, 0, 0, 'a', 0, 0, 'a', 0, 0, 0)
	if !slices.Equal(second, []int{2, 5, 8}) {
		t.Errorf("what Pending told is changed: %v", second)
	}
}
