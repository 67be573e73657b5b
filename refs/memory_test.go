package refs_test

import (
	"maps"
	"slices"
	"testing"

	"portage/refs"
)

// What stands in what lists are written over with, and what is appended to them.
var (
	spareOwner  = own(-77, -78)
	spareChange = refs.Change{Owner: spareOwner, From: -79, To: -80}
)

const spareAddr = -81

// overwrite lays x over all of a list, its spare room too, and appends it.
func overwrite[T any](list []T, x T) {
	whole := list[:cap(list)]
	for i := range whole {
		whole[i] = x
	}
	_ = append(list, x)
	_ = append(whole, x)
}

// wantKept demands that writing over one answer, its spare room too, changes no other one.
func wantKept[T comparable](t *testing.T, what string, spoilt, kept []T, x T) {
	t.Helper()
	before := slices.Clone(kept)
	overwrite(spoilt, x)
	if !slices.Equal(kept, before) {
		t.Fatalf("%s told %v, and it is %v now", what, before, kept)
	}
	// What is laid in the spare room of one answer is in that of no other one.
	for _, y := range kept[:cap(kept)] {
		if y == x {
			t.Fatalf("two answers of %s share their spare room", what)
		}
	}
}

// spoil writes over all that a reverse map tells, each twice, and demands that all is told as before.
func spoil(t *testing.T, r *refs.Refs, m *model) {
	t.Helper()
	for _, addr := range []int{-1, 0, 4, 7, 8, 9, 77} {
		wantKept(t, "Owners", r.Owners(addr), r.Owners(addr), spareOwner)
	}
	for _, vol := range []int{-3, 0, 1, 2, 3, 77} {
		wantKept(t, "Volume", r.Volume(vol), r.Volume(vol), spareOwner)
	}
	wantKept(t, "Owners beside Volume", r.Volume(1), r.Owners(9), spareOwner)
	wantKept(t, "Volume beside Owners", r.Owners(9), r.Volume(1), spareOwner)
	wantKept(t, "Addrs", r.Addrs(), r.Addrs(), spareAddr)
	wantAll(t, r, m)
}

func TestP9_4ToldIsNew(t *testing.T) {
	r, m := several(t)
	spoil(t, r, m)
	must(t, "Begin", r.Begin())
	spoil(t, r, m)
	put(t, r, pair{own(1, 1), 9}, pair{own(1, 0), 7})
	moved := &model{of: maps.Clone(m.of)}
	moved.put(own(1, 1), 9)
	moved.put(own(1, 0), 7)
	spoil(t, r, moved)
	must(t, "Back", r.Back())
	wantAll(t, r, m)
	spoil(t, r, m)
	spoil(t, refs.New(), newModel())
}

// TestP9_4WrittenOverInBetween writes over answers between Begin and its end, and wants that end as if nobody had.
func TestP9_4WrittenOverInBetween(t *testing.T) {
	r, m := several(t)
	for _, end := range []string{"Back", "Commit"} {
		must(t, "Begin", r.Begin())
		want := changed(t, r)
		for _, addr := range r.Addrs() {
			overwrite(r.Owners(addr), spareOwner)
		}
		overwrite(r.Addrs(), spareAddr)
		overwrite(r.Volume(1), spareOwner)
		if end == "Commit" {
			wantCommit(t, r, want...)
			continue
		}
		must(t, "Back", r.Back())
		wantAll(t, r, m)
	}
}

func TestP9_4CommitIsNew(t *testing.T) {
	r, _ := several(t)
	must(t, "Begin", r.Begin())
	want := changed(t, r)
	told, err := r.Commit()
	must(t, "Commit", err)
	owners, addrs, volume := r.Owners(9), r.Addrs(), r.Volume(1)
	overwrite(told, spareChange)
	for _, c := range want {
		wantOf(t, r, c.Owner, c.To)
	}
	wantOwners(t, r, 9, owners...)
	wantAddrs(t, r, addrs...)
	wantVolume(t, r, 1, volume...)

	// The changes of the next one are none of those that were written over.
	must(t, "Begin", r.Begin())
	var back []refs.Change
	for _, c := range want {
		put(t, r, pair{c.Owner, c.From})
		back = append(back, refs.Change{Owner: c.Owner, From: c.To, To: c.From})
	}
	first, err := r.Commit()
	must(t, "Commit", err)
	must(t, "Begin", r.Begin())
	for _, c := range want {
		put(t, r, pair{c.Owner, c.To})
	}
	second, err := r.Commit()
	must(t, "Commit", err)
	if !slices.Equal(first, back) || !slices.Equal(second, want) {
		t.Fatalf("Commit: %v, then %v", first, second)
	}
	wantKept(t, "Commit", second, first, spareChange)
}

// TestP9_4ToldStays demands that what was told stays as it was when the reverse map changes.
func TestP9_4ToldStays(t *testing.T) {
	r, m := several(t)
	owners, addrs, volume := r.Owners(9), r.Addrs(), r.Volume(1)
	wantOwnersTold, wantAddrsTold, wantVolumeTold := slices.Clone(owners), slices.Clone(addrs), slices.Clone(volume)
	must(t, "Begin", r.Begin())
	want := changed(t, r)
	changes, err := r.Commit()
	must(t, "Commit", err)
	for _, o := range m.order() {
		put(t, r, pair{o, 0})
	}
	must(t, "Begin", r.Begin())
	changed(t, r)
	must(t, "Back", r.Back())
	if !slices.Equal(owners, wantOwnersTold) || !slices.Equal(addrs, wantAddrsTold) || !slices.Equal(volume, wantVolumeTold) || !slices.Equal(changes, want) {
		t.Errorf("what was told is now %v, %v, %v, %v", owners, addrs, volume, changes)
	}
}

// TestP9_4HandedInIsNotKept puts owners out of a variable that is written over behind the call.
func TestP9_4HandedInIsNotKept(t *testing.T) {
	r := refs.New()
	o := own(1, 0)
	must(t, "Put", r.Put(o, 9))
	if o != own(1, 0) {
		t.Fatalf("Put changes what is handed in: %v", o)
	}
	o.Vol, o.Block = 5, 6
	wantOwners(t, r, 9, own(1, 0))
	wantOf(t, r, o, 0)
}
