package audit_test

import (
	"reflect"
	"slices"
	"testing"

	"portage/api"
	"portage/audit"
	"portage/bank"
	"portage/space"
)

// wantNames demands what Names tells of a device.
func wantNames(t *testing.T, b *bank.Bank, device int, want ...int) {
	t.Helper()
	still(t, b, func() {
		names, err := audit.Names(b, device)
		if err != nil || !slices.Equal(names, want) {
			t.Fatalf("Names(%d): %v, %v, not %v", device, names, err, want)
		}
	})
}

// TestP22_2Names has the addresses of each device, of such as there are not, and of any number.
func TestP22_2Names(t *testing.T) {
	h := one(t, three())
	wantNames(t, h.b, 0, at(0, 2), at(0, 10), at(0, 11), at(0, 14), at(0, 15), at(0, 16), at(0, 42), at(0, 46), at(0, 49))
	wantNames(t, h.b, 1, at(1, 12), at(1, 13), at(1, 40), at(1, 41), at(1, 43), at(1, 44), at(1, 45), at(1, 49))
	for _, device := range append(span(2, 20), edges...) {
		wantNames(t, h.b, device)
	}
	// A device that the bank has, and the pool has not.
	_, err := h.b.Add(50)
	must(t, "Add", err)
	wantNames(t, h.b, 2)

	for _, root := range []int{0, at(0, 2)} {
		h := laid(t, nil).root(root)
		if root != 0 {
			h.page(root, leaf(4, 9))
			wantNames(t, h.b, 0, root)
		} else {
			wantNames(t, h.b, 0)
		}
		wantNames(t, h.b, 1)
	}
}

// TestP22_2States has a device while it is left, and behind that.
func TestP22_2States(t *testing.T) {
	w := made(t, 60, 50, 70)
	must(t, "Create", w.p.Create(1, 40))
	w.write(1, 0, span(1, 30)...)
	must(t, "Snapshot", w.p.Snapshot(2, 1))
	w.write(1, 3, 7)
	must(t, "Evacuate", w.p.Evacuate(1))
	names, err := audit.Names(w.b, 1)
	if must(t, "Names", err); len(names) == 0 {
		t.Fatal("nothing is on the device 1")
	}
	for w.p.Info().Leaving >= 0 {
		_, err := w.p.Move()
		must(t, "Move", err)
		names, err := audit.Names(w.b, 1)
		must(t, "Names", err)
		if r := audited(t, w.b); r.On[1].Data+r.On[1].Pages != len(names) {
			t.Fatalf("Names: %v, and Audit %+v", names, r)
		}
	}
	wantNames(t, w.b, 1)
	must(t, "Flush", w.p.Flush())
	w.wantInfo()
}

// TestP22_2All demands that the names of all devices are just the addresses that Audit counts.
func TestP22_2All(t *testing.T) {
	w := made(t, 90, 80, 70, 60)
	must(t, "Create", w.p.Create(1, 400))
	for at := range 60 {
		w.write(1, at*5, at+1)
	}
	must(t, "Snapshot", w.p.Snapshot(2, 1))
	w.left(2)
	r := audited(t, w.b)
	count := 0
	for device := range 4 {
		names, err := audit.Names(w.b, device)
		must(t, "Names", err)
		if !slices.IsSorted(names) || len(slices.Compact(slices.Clone(names))) != len(names) || len(names) != r.On[device].Data+r.On[device].Pages {
			t.Fatalf("Names(%d): %v, and %+v", device, names, r.On[device])
		}
		for _, addr := range names {
			if on, _ := space.At(addr); on != device || w.p.Info().Roster.State(device) == api.Removed {
				t.Fatalf("Names(%d): %d", device, addr)
			}
		}
		count += len(names)
	}
	if count != r.Data+r.Pages {
		t.Fatalf("%d names, and %+v", count, r)
	}
}

// scribble writes over a list, its spare room too, and appends to it.
func scribble[T any](list []T, x T) {
	list = list[:cap(list)]
	for i := range list {
		list[i] = x
	}
	_ = append(list, x, x)
}

// TestP22_5Memory writes over all that is told: nothing that is told later changes, nor what was told ahead.
func TestP22_5Memory(t *testing.T) {
	w := made(t, 60, 50, 70)
	must(t, "Create", w.p.Create(1, 40))
	w.write(1, 0, span(1, 30)...)
	must(t, "Flush", w.p.Flush())
	type told struct {
		report audit.Report
		names  [3][]int
	}
	ask := func() told {
		x := told{report: audited(t, w.b)}
		for device := range x.names {
			names, err := audit.Names(w.b, device)
			must(t, "Names", err)
			x.names[device] = names
		}
		return x
	}
	spoil := func(x told) {
		scribble(x.report.On, audit.Count{Data: -7, Pages: -7})
		for _, names := range x.names {
			scribble(names, -7)
		}
	}
	want, first, second := ask(), ask(), ask()
	if len(want.names[0]) == 0 || len(want.report.On) != 3 {
		t.Fatalf("there is nothing to write over: %+v", want)
	}
	spoil(first)
	if !reflect.DeepEqual(second, want) {
		t.Fatalf("%+v was told ahead, and is not %+v", second, want)
	}
	spoil(second)
	if third := ask(); !reflect.DeepEqual(third, want) {
		t.Fatalf("%+v, not %+v", third, want)
	}
	// One list of an answer has no memory of another one.
	x := ask()
	scribble(x.names[0], -7)
	x.names[0] = want.names[0]
	if !reflect.DeepEqual(x, want) {
		t.Fatalf("%+v, not %+v", x, want)
	}
	w.wantInfo()
}
