package pool_test

import (
	"reflect"
	"testing"

	"portage/api"
	"portage/mover"
	"portage/pool"
	"portage/roster"
	"portage/thin"
)

// wantInfo demands that this is what is known of the pool.
func (w *world) wantInfo(want pool.Info) {
	w.Helper()
	got := w.p.Info()
	if len(got.Volumes) == 0 {
		got.Volumes = nil
	}
	if !reflect.DeepEqual(got, want) {
		w.Fatalf("Info: %+v, not %+v", got, want)
	}
	w.wantOwn()
}

// TestP19_5Info goes through each field, ahead of, within and behind leaving a device.
func TestP19_5Info(t *testing.T) {
	w := made(t, 50, 30)
	both := roster.Roster{List: []roster.Entry{{State: api.Active, Size: 50}, {State: api.Active, Size: 30}}}
	want := pool.Info{Gen: 1, Roster: both, Room: 76, Free: 76, Leaving: -1}
	w.wantInfo(want)

	// One page is the catalog's.
	must(t, "Create", w.p.Create(1, 20))
	want.Gen, want.Pages, want.Free = 2, 1, 75
	want.Volumes = []thin.Info{{Id: 1, Size: 20}}
	w.wantInfo(want)

	// Five blocks, and a page that maps them.
	w.write(1, 3, span(1, 5)...)
	want.Data, want.Pages, want.Free = 5, 2, 69
	want.Volumes[0].Mapped = 5
	w.wantInfo(want)

	// What a snapshot shares is counted once.
	must(t, "Snapshot", w.p.Snapshot(7, 1))
	want.Gen = 3
	want.Volumes = append(want.Volumes, thin.Info{Id: 7, Size: 20, Origin: 1, Mapped: 5})
	w.wantInfo(want)

	// One block more, and a page more, for they are not shared.
	w.write(7, 3, 77)
	want.Data, want.Pages, want.Free = 6, 3, 67
	w.wantInfo(want)

	// What is given back is free when it is settled: a block and two pages, of the volume's and of the catalog's.
	must(t, "Discard", w.p.Discard(1, 3, 1))
	want.Data, want.Free = 5, 66
	want.Volumes[0].Mapped = 4
	w.wantInfo(want)
	if n := w.given(); n != 2 {
		t.Fatalf("%d are given back", n)
	}
	must(t, "Flush", w.p.Flush())
	want.Gen, want.Free = 4, 68
	w.wantInfo(want)

	// The room of a device that is left is no less, but nothing of it is free.
	must(t, "Evacuate", w.p.Evacuate(0))
	want.Gen, want.Leaving = 5, 0
	want.Roster = w.p.Info().Roster
	want.Free = 28 - w.p.Manager().Space().Used(1)
	if want.Roster.State(0) != api.Draining || want.Roster.State(1) != api.Active {
		t.Fatalf("the roster is %v", want.Roster)
	}
	w.wantInfo(want)

	// Copies are taken as long as they are copied.
	w.step(mover.Planned)
	want.Copies, want.Free = 4, want.Free-4
	w.wantInfo(want)
	for range 4 {
		w.step(mover.Read)
		w.wantInfo(want)
		w.step(mover.Wrote)
		w.wantInfo(want)
	}
	w.step(mover.Swapped)
	want.Gen, want.Copies = 6, 0
	want.Free = 28 - w.p.Manager().Space().Used(1)
	w.wantInfo(want)
	w.leave(func(int) {})

	// Five blocks and three pages are on the device 1.
	want.Gen, want.Leaving, want.Room, want.Free = w.gen(), -1, 28, 20
	want.Roster.List[0].State = api.Removed
	w.wantInfo(want)
	w.crash()
	w.wantInfo(want)
}

// TestP19_5Manager demands that Manager tells what Info and Read do.
func TestP19_5Manager(t *testing.T) {
	l := scene(t, 5)
	i, m := l.p.Info(), l.p.Manager()
	if !reflect.DeepEqual(i.Volumes, m.List()) || i.Data != len(m.Data()) || i.Pages != len(m.Pages()) || i.Free != m.Space().Free() || !i.Roster.Same(m.Space().Roster()) {
		t.Fatalf("Info: %+v", i)
	}
	for _, v := range m.List() {
		data, err := m.Read(v.Id, 0, 5)
		must(t, "Read", err)
		other, err := l.p.Read(v.Id, 0, 5)
		must(t, "Read", err)
		if !reflect.DeepEqual(data, other) {
			t.Fatalf("the volume %d is another one", v.Id)
		}
	}
	if m != l.p.Manager() {
		t.Fatal("Manager tells another one")
	}
	l.run(flushes())
	if m != l.p.Manager() {
		t.Fatal("Manager tells another one")
	}
}
