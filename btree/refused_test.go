package btree_test

import (
	"reflect"
	"testing"

	"portage/api"
	"portage/btree"
	"portage/space"
)

// freeing takes addresses that are free, ahead of Begin, and lets them be free behind it.
type freeing struct {
	name          string
	ahead, behind func(s *space.Space, addr int) error
	// settled ahead says that all is settled ahead of Begin, settled first and last that it is behind it: ahead of what frees them, or behind that.
	settledAhead, settledFirst, settledLast bool
}

// freeings are all ways to that.
func freeings() []freeing {
	mark := (*space.Space).Mark
	take := func(s *space.Space, _ int) error { _, err := s.Take(); return err }
	give, unmark := (*space.Space).Give, (*space.Space).Unmark
	return []freeing{
		{name: "marked, unmarked", ahead: mark, behind: unmark},
		{name: "marked, given, settled", ahead: mark, behind: give, settledLast: true},
		{name: "fresh, given, settled", ahead: take, behind: give, settledLast: true},
		{name: "fresh, settled, unmarked", ahead: take, behind: unmark, settledFirst: true},
		{name: "taken, settled, unmarked", ahead: take, behind: unmark, settledAhead: true},
		{name: "taken, settled, given, settled", ahead: take, behind: give, settledAhead: true, settledLast: true},
	}
}

// spare are the addresses that are free, where nothing is given back.
func (w *world) spare() []int {
	var addrs []int
	for device, e := range w.s.Roster().List {
		for sector := api.Slots; sector < e.Size; sector++ {
			if addr := space.Addr(device, sector); !w.s.Taken(addr) {
				addrs = append(addrs, addr)
			}
		}
	}
	return addrs
}

// free begins, and lets all that is free be taken ahead of that, and free since.
func (w *world) free(way freeing) {
	w.Helper()
	addrs := w.spare()
	settle := func(does bool) {
		if does {
			w.s.Settle()
		}
	}
	for _, addr := range addrs {
		must(w.T, way.name, way.ahead(w.s, addr))
	}
	settle(way.settledAhead)
	w.begin()
	settle(way.settledFirst)
	for _, addr := range addrs {
		must(w.T, way.name, way.behind(w.s, addr))
	}
	settle(way.settledLast)
	if got := w.s.Free(); got != len(addrs) {
		w.Fatalf("%s: %d are free, not %d", way.name, got, len(addrs))
	}
}

// later is what a store and a space answer to calls that come between Begin and its end, at the end, and behind it.
type later struct {
	Takes []int
	Told  []told
}

// answers takes all that is free, gives it and takes it once more, then ends what was begun.
func (w *world) answers(end func(w *world)) later {
	w.Helper()
	var x later
	x.Told = append(x.Told, w.tells())
	for range 2 {
		var addrs []int
		for addr, err := w.s.Take(); err == nil; addr, err = w.s.Take() {
			addrs = append(addrs, addr)
		}
		x.Takes = append(x.Takes, addrs...)
		for _, addr := range addrs {
			must(w.T, "Give", w.s.Give(addr))
		}
		x.Told = append(x.Told, w.tells())
	}
	for _, addr := range w.p.Pages() {
		w.hold(addr)
		w.drop(addr)
	}
	end(w)
	x.Told = append(x.Told, w.all())
	return x
}

// wantAsIfNot demands of forests that are alike that a call which is refused in the one leaves it as the other one is in which it was not done.
func wantAsIfNot(t *testing.T, what string, made func() *forest, call func(f *forest) bool) {
	t.Helper()
	for _, end := range []func(w *world){(*world).commit, (*world).back} {
		f := made()
		if call(f) {
			return
		}
		if got, want := f.answers(end), made().answers(end); !reflect.DeepEqual(got, want) {
			t.Fatalf("%s: behind a call that is refused: %+v, not %+v", what, got, want)
		}
	}
}

// TestP12_2RefusedBegun has Set and Delete done between Begin and its end, with room for none to five pages more and with a power that goes at one of the first writes, or stays, where all that they may take was taken ahead of Begin and was free since.
func TestP12_2RefusedBegun(t *testing.T) {
	calls := []call{{"Set", 20, 5}, {"Set", 1, 7}, {"Set", 57, 9}, {"Delete", 10, 0}, {"Delete", 20, 0}, {"Delete", 50, 0}, {"Delete", 3, 0}, {"Set", -1, 5}}
	for _, way := range freeings() {
		for name, x := range small() {
			for _, c := range calls {
				for room := range 6 {
					for arm := -1; arm < min(room, 4); arm++ {
						made := func() *forest {
							f := planted(made(t, api.Slots+max(1, x.count()+room)), x)
							f.free(way)
							return f
						}
						wantAsIfNot(t, way.name+", "+name, made, func(f *forest) bool { return f.does(0, c, arm) })
					}
				}
			}
		}
	}
}

// TestP12_4RefusedBegun has Swap done as TestP12_2RefusedBegun has the others.
func TestP12_4RefusedBegun(t *testing.T) {
	shared := above(leafOf(10, 20), leafOf(30))
	for _, way := range freeings() {
		for _, x := range []*page{shared, above(shared, above(leafOf(70, 80))), leafOf(5), nil} {
			for device := -1; device <= 1; device++ {
				for _, vals := range []map[int]int{nil, {1020: 9, 1070: 1}, {1030: 0}} {
					for room := range 7 {
						for arm := -1; arm < 5; arm++ {
							made := func() *forest {
								f := planted(made(t, 8, api.Slots+1+room), x)
								f.free(way)
								return f
							}
							wantAsIfNot(t, way.name, made, func(f *forest) bool { return f.swap(0, arm, swapWith(device, vals)) })
						}
					}
				}
			}
		}
	}
}

// TestP12_2RefusedBegunByDelete is as a caller comes to it: a tree goes, the space is settled, and what another one would need is more than that.
func TestP12_2RefusedBegunByDelete(t *testing.T) {
	for _, settled := range []bool{false, true} {
		w := made(t, 5)
		one, seven := w.grown(1), w.grown(10, 20, 30, 40, 50, 60, 70)
		if settled {
			w.s.Settle()
		}
		before := w.all()
		w.begin()
		if root := w.delete(one, 1); root != 0 {
			t.Fatalf("Delete: %d", root)
		}
		w.s.Settle()
		within := w.tells()
		for range 3 {
			root, err := btree.Set(w.p, seven, 80, 8)
			wantError(t, "Set", err, api.ErrFull)
			if root != 0 {
				t.Fatalf("Set tells %d beside an error", root)
			}
			wantSame(t, "Set", w.tells(), within)
		}
		w.set(seven, 70, 7)
		w.back()
		wantSame(t, "Back", w.all(), before)
	}
}
