package thin_test

import (
	"maps"
	"math"
	"slices"
	"testing"

	"portage/api"
	"portage/refs"
	"portage/space"
	"portage/thin"
)

// another is the manager that is loaded from a tree of the same bank.
func (w *world) another(root int) *world {
	w.Helper()
	m, err := thin.Load(w.b, w.m.Space().Roster(), root)
	must(w.T, "Load", err)
	return &world{w.T, w.b, m}
}

// wantLoaded demands that another manager, loaded from what was saved and settled, tells all that this one tells.
func (w *world) wantLoaded() {
	w.Helper()
	other := w.another(w.m.Root())
	wantSame(w.T, "Load", other.tells(), w.tells())
	other.wantOwn()
}

// drain lets nothing new be taken on a device.
func (w *world) drain(device int) {
	w.Helper()
	r, err := w.m.Space().Roster().Drain(device)
	must(w.T, "Drain", err)
	must(w.T, "Turn", w.m.Turn(r))
}

// on are those of these addresses that are on a device.
func on(device int, addrs []int) []int {
	var list []int
	for _, addr := range addrs {
		if d, _ := space.At(addr); d == device {
			list = append(list, addr)
		}
	}
	return list
}

func TestP14_5Save(t *testing.T) {
	w := made(t, 60, 50)
	if root := w.save(); root != 0 || w.m.Root() != 0 || w.b.Done() != 0 {
		t.Fatalf("Save of nothing: %d", root)
	}
	w.create(1, 20)
	if w.m.Root() != 0 {
		t.Fatalf("Root ahead of Save: %d", w.m.Root())
	}
	first := w.save()
	if first == 0 || w.m.Root() != first {
		t.Fatalf("Save: %d, Root: %d", first, w.m.Root())
	}
	w.another(first).wantList(thin.Info{Id: 1, Size: 20})
	w.write(1, 3, 4)
	w.snapshot(2, 1)
	// What was saved is what was there then.
	if w.m.Root() != first {
		t.Fatalf("Root: %d, not %d", w.m.Root(), first)
	}
	w.another(first).wantList(thin.Info{Id: 1, Size: 20})
	second := w.save()
	if second == first || w.m.Root() != second {
		t.Fatalf("Save: %d, Root: %d", second, w.m.Root())
	}
	w.m.Settle()
	w.wantLoaded()
	// Where nothing differs nothing is written.
	w.b.Arm(0)
	before := w.tells()
	if root := w.save(); root != second {
		t.Fatalf("Save: %d, not %d", root, second)
	}
	wantSame(t, "Save", w.tells(), before)
	w.b.Arm(-1)
	w.delete(1)
	w.delete(2)
	if root := w.save(); root != 0 || w.m.Root() != 0 {
		t.Fatalf("Save without volumes: %d", root)
	}
	w.wantEmpty()
}

// TestP14_5SaveRefused demands that Save tells 0 beside an error, layer 12's.
func TestP14_5SaveRefused(t *testing.T) {
	w := made(t, 4)
	for id := 1; id <= 5; id++ {
		w.create(id, 9)
	}
	others := w.scarce(0)
	w.fails("Save", api.ErrFull, func() error {
		root, err := w.m.Save()
		if root != 0 {
			t.Errorf("Save tells %d beside an error", root)
		}
		return err
	})
	for _, addr := range others {
		must(t, "Give", w.m.Space().Give(addr))
	}
	w.save()
	w.m.Settle()
	w.wantLoaded()
	w = made(t, 20)
	w.create(1, 9)
	w.b.Arm(0)
	w.fails("Save", brokenPage("write", 2, api.ErrDown), func() error { _, err := w.m.Save(); return err })
	must(t, "Detach", func() error { w.keep(); return w.b.Detach(0) }())
	w.fails("Save", brokenPage("write", 2, api.ErrGone), func() error { _, err := w.m.Save(); return err })
}

func TestP14_5Settle(t *testing.T) {
	w := made(t, 60)
	if w.m.Settle() != 0 {
		t.Fatal("something was given back")
	}
	w.create(1, 20)
	w.write(1, 3, 4, 5, 6)
	if w.m.Settle() != 0 {
		t.Fatal("something was given back")
	}
	addr := w.m.Map(1, 4)
	w.discard(1, 4, 1)
	if w.isFree(addr) || w.m.Space().Taken(addr) {
		t.Fatalf("%d was settled, and is not given back", addr)
	}
	// The block, and the page that had it.
	if n := w.m.Settle(); n != 2 || !w.isFree(addr) {
		t.Fatalf("Settle: %d", n)
	}
	w.wantOwn()
}

func TestP14_5Turn(t *testing.T) {
	w := made(t, 30, 20)
	w.create(1, 20)
	w.write(1, 0, span(1, 8)...)
	s := w.m.Space()
	r := s.Roster()
	bad := rostered(30, 2)
	w.refuses("Turn", api.ErrForm, func() error { return w.m.Turn(bad) })
	w.refuses("Turn", api.ErrState, func() error { return w.m.Turn(rostered(30)) })
	w.refuses("Turn", api.ErrState, func() error { return w.m.Turn(rostered(29, 20)) })
	removed := rostered(30, 20)
	removed.List[0].State = api.Removed
	w.refuses("Turn", api.ErrState, func() error { return w.m.Turn(removed) })
	more, _, err := r.Add(40)
	must(t, "Add", err)
	must(t, "Turn", w.m.Turn(more))
	if !s.Roster().Same(more) || s != w.m.Space() {
		t.Fatalf("Turn: %v", s.Roster())
	}
	// What is new is taken where the most is free.
	wantError(t, "Write", w.m.Write(1, 9, of(5)), broken("write", space.Addr(2, 2), api.ErrDevice))
	_, err = w.b.Add(40)
	must(t, "Add", err)
	w.wantMoves(1, 9, 5)
	if device, _ := space.At(w.m.Map(1, 9)); device != 2 {
		t.Fatalf("the block is on the device %d", device)
	}
	w.drain(2)
	w.wantMoves(1, 10, 5)
	if device, _ := space.At(w.m.Map(1, 10)); device == 2 {
		t.Fatalf("the block is on a device that is left")
	}
}

// shares tells which blocks are at one address, as often as there are.
func (w *world) shares() [][]refs.Owner {
	var list [][]refs.Owner
	for _, addr := range w.m.Data() {
		list = append(list, w.m.Owners(addr))
	}
	slices.SortFunc(list, func(a, b []refs.Owner) int {
		return (a[0].Vol-b[0].Vol)*1000 + a[0].Block - b[0].Block
	})
	return list
}

// wantSwapped demands that Swap puts blocks elsewhere, and the pages of a device, and that all is as it was but for that.
func (w *world) wantSwapped(device int, from, to []int) {
	w.Helper()
	before, shares, wasPages := w.tells(), w.shares(), len(on(device, w.m.Pages()))
	must(w.T, "Swap", w.m.Swap(device, from, to))
	after := w.tells()
	for o, was := range before.Blocks {
		want := was
		if at := slices.Index(from, was.Addr); at >= 0 {
			want.Addr = to[at]
		}
		if after.Blocks[o] != want {
			w.Fatalf("the block %v is at %d, and was at %d", o, after.Blocks[o].Addr, was.Addr)
		}
	}
	if !slices.EqualFunc(shares, w.shares(), slices.Equal) || !slices.Equal(after.List, before.List) {
		w.Fatalf("%v share their addresses, not %v", w.shares(), shares)
	}
	for _, addr := range from {
		if w.m.Space().Taken(addr) {
			w.Fatalf("%d is taken", addr)
		}
	}
	if len(on(device, w.m.Pages())) != 0 || device < 0 && wasPages > 0 {
		w.Fatalf("pages on the device %d: %v", device, w.m.Pages())
	}
	w.wantOwn()
	// It is saved: the next Save has nothing to do.
	w.b.Arm(0)
	if root := w.save(); root != after.Root {
		w.Fatalf("Save: %d, not %d", root, after.Root)
	}
	w.b.Arm(-1)
}

func TestP14_5Swap(t *testing.T) {
	for name, scene := range scenes() {
		for device := range 2 {
			for _, most := range []int{0, 1, 3, 100} {
				w := made(t, 80, 90)
				scene(w)
				if most == 1 {
					w.save()
				}
				w.drain(device)
				from, to := w.copies(device, most)
				pages := len(w.m.Pages())
				if len(on(device, w.m.Pages())) == 0 || len(on(1-device, w.m.Pages())) == 0 {
					t.Fatalf("%s: %v are pages", name, w.m.Pages())
				}
				w.wantSwapped(device, from, to)
				// What is shared stays shared: the catalog's tree may be new, but no volume's has more pages.
				if len(w.m.Pages()) > pages+8 {
					t.Fatalf("%s: %d pages, and %d were", name, len(w.m.Pages()), pages)
				}
				if most == 100 {
					w.m.Settle()
					if w.m.Space().Used(device) != 0 {
						t.Fatalf("%s: %d are used on the device", name, w.m.Space().Used(device))
					}
					told := w.tells()
					must(t, "Fill", w.b.Fill(device, []byte{5}))
					wantSame(t, "Fill", w.tells(), told)
					w.wantLoaded()
				}
			}
		}
	}
}

// TestP14_5SwapShared counts pages: trees that are shared wholly, or in part, are so behind it.
func TestP14_5SwapShared(t *testing.T) {
	w := made(t, 150, 150)
	w.create(1, 100)
	for block := range 40 {
		w.write(1, block, block+1)
	}
	for id := 2; id <= 9; id++ {
		w.snapshot(id, id-1)
		w.write(id, id, 99)
	}
	w.snapshot(10, 9)
	w.save()
	w.m.Settle()
	w.drain(0)
	from, to := w.copies(0, 1000)
	pages := len(w.m.Pages())
	w.wantSwapped(0, from, to)
	if len(w.m.Pages()) != pages {
		t.Fatalf("%d pages, and %d were", len(w.m.Pages()), pages)
	}
	w.m.Settle()
	w.wantLoaded()
	w.wantEmpty()
}

// TestP14_5SwapNoDevice swaps addresses alone, as who copies blocks does: pages stay where they are, unless what they name changes.
func TestP14_5SwapNoDevice(t *testing.T) {
	w := made(t, 80, 90)
	w.settled()
	w.drain(0)
	from, to := w.copies(0, 2)
	must(t, "Swap", w.m.Swap(-1, from, to))
	if len(on(0, w.m.Pages())) == 0 || slices.Contains(w.m.Data(), from[0]) || slices.Contains(w.m.Data(), from[1]) {
		t.Fatalf("%v are pages, %v blocks", w.m.Pages(), w.m.Data())
	}
	w.wantOwn()
	w.m.Settle()
	w.wantLoaded()
	before, done := w.tells(), w.b.Done()
	for _, device := range []int{-1, 2, 7, 8, math.MinInt, math.MaxInt} {
		must(t, "Swap", w.m.Swap(device, nil, []int{}))
	}
	wantSame(t, "Swap", w.tells(), before)
	if w.b.Done() != done {
		t.Fatal("Swap of nothing writes")
	}
}

// TestP14_5SwapActive leaves a device that is Active: pages go elsewhere, and it is Active behind it.
func TestP14_5SwapActive(t *testing.T) {
	w := made(t, 90, 60)
	w.settled()
	r := w.m.Space().Roster()
	from, to := w.copies(0, 2)
	w.wantSwapped(0, from, to)
	if !w.m.Space().Roster().Same(r) {
		t.Fatalf("the roster is %v, and was %v", w.m.Space().Roster(), r)
	}
	// If there is no other one, they go to other places of it.
	w = made(t, 90)
	w.settled()
	pages := w.m.Pages()
	must(t, "Swap", w.m.Swap(0, nil, nil))
	for _, addr := range w.m.Pages() {
		if slices.Contains(pages, addr) {
			t.Fatalf("%d was a page", addr)
		}
	}
}

// TestP14_5SwapFence demands that who moved may be written where it is, and that no fence is left where it was.
func TestP14_5SwapFence(t *testing.T) {
	w := made(t, 60, 60)
	w.create(1, 20)
	w.write(1, 0, span(1, 8)...)
	w.snapshot(2, 1)
	w.write(2, 0, span(11, 4)...)
	w.drain(0)
	from, to := w.copies(0, 100)
	moved := []int{}
	for block := range 4 {
		if device, _ := space.At(w.m.Map(1, block)); device == 0 {
			moved = append(moved, block)
		}
	}
	if len(moved) == 0 || len(moved) == 4 {
		t.Fatalf("%v are on the device", moved)
	}
	w.wantSwapped(0, from, to)
	for block := range 4 {
		if slices.Contains(moved, block) {
			w.wantStays(1, block, 50+block)
		} else {
			w.wantMoves(1, block, 50+block)
		}
	}
	for block := 4; block < 8; block++ {
		w.wantMoves(1, block, 60+block)
	}
}

// TestP14_5SwapWrong hands in addresses that can't be swapped.
func TestP14_5SwapWrong(t *testing.T) {
	w := made(t, 60, 50)
	w.settled()
	take := func() int {
		addr, err := w.m.Space().Take()
		must(t, "Take", err)
		return addr
	}
	one, two, page := take(), take(), w.m.Pages()[0]
	data := w.m.Data()
	free := slices.Max(w.free(0, 60))
	for _, c := range []struct {
		from, to []int
		want     error
	}{
		{data[:1], nil, api.ErrLength},
		{nil, []int{one}, api.ErrLength},
		{data[:2], []int{one}, api.ErrLength},
		{data[:1], []int{one, two}, api.ErrLength},
		{data[:1], []int{free}, api.ErrTaken},
		{data[:1], []int{page}, api.ErrTaken},
		{data[:1], []int{data[1]}, api.ErrTaken},
		{data[:1], []int{data[0]}, api.ErrTaken},
		{data[:2], []int{data[1], data[0]}, api.ErrTaken},
		{data[:2], []int{one, one}, api.ErrTaken},
		{[]int{data[0], data[0]}, []int{one, two}, api.ErrTaken},
		{[]int{data[0], one}, []int{one, two}, api.ErrTaken},
		{[]int{page}, []int{one}, api.ErrTaken},
		{[]int{data[0], page}, []int{one, two}, api.ErrTaken},
	} {
		w.refuses("Swap", c.want, func() error { return w.m.Swap(0, c.from, c.to) })
	}
	for _, addr := range append([]int{60, space.Addr(1, 1), space.Addr(1, 50), space.Addr(2, 5)}, edges...) {
		if device, sector := space.At(addr); device < 0 || device > 1 || sector < 2 || sector >= []int{60, 50}[device] {
			w.refuses("Swap", api.ErrRange, func() error { return w.m.Swap(0, []int{addr}, []int{one}) })
			w.refuses("Swap", api.ErrRange, func() error { return w.m.Swap(0, data[:1], []int{addr}) })
		}
	}
	w.wantOwn(one, two)
}

// TestP14_5SwapNobodys hands in addresses that no block is at any more: they are given back, and so is what was taken for them.
func TestP14_5SwapNobodys(t *testing.T) {
	for _, settled := range []bool{false, true} {
		w := made(t, 60, 50)
		w.content()
		if settled {
			w.m.Settle()
		}
		from, to := []int{w.m.Map(4, 2), w.m.Map(1, 0), w.m.Map(4, 4)}, []int{}
		for range 5 {
			addr, err := w.m.Space().Take()
			must(t, "Take", err)
			to = append(to, addr)
		}
		device, sector := space.At(to[1])
		must(t, "Write", w.b.Write(device, sector, of(31)))
		// One of from was taken, but is nobody's.
		from, to = append(from, to[3]), slices.Delete(to, 3, 4)
		w.delete(4)
		must(t, "Swap", w.m.Swap(-1, from, to))
		w.wantOwn()
		if w.m.Map(1, 0) != to[1] {
			t.Fatalf("the block is at %d, not %d", w.m.Map(1, 0), to[1])
		}
		w.want(1, 0, 31)
	}
}

// TestP14_5SwapRoom demands that a swap that has no room for its pages tells ErrFull, and one that has just enough does not.
func TestP14_5SwapRoom(t *testing.T) {
	needs := map[int]int{}
	for _, begun := range []bool{false, true} {
		for room := 0; ; room++ {
			w := made(t, 60, 100)
			w.settled()
			w.drain(0)
			from, to := w.copies(0, 3)
			others := w.scarce(room)
			if begun {
				w.begin()
			}
			pages := len(on(0, w.m.Pages()))
			if err := w.m.Swap(0, from, to); err == nil {
				needs[room]++
				if room < pages {
					t.Fatalf("%d pages have room for %d", pages, room)
				}
				w.wantOwn(others...)
				break
			}
		}
	}
	if len(needs) != 1 {
		t.Fatalf("it needs %v", slices.Collect(maps.Keys(needs)))
	}
}
