package pool_test

import (
	"fmt"
	"slices"
	"testing"

	"portage/api"
	"portage/bank"
	"portage/fault"
	"portage/mover"
	"portage/pool"
	"portage/roster"
	"portage/space"
	"portage/super"
)

// wantNoPool demands that Format or Open tells just this error, and writes nothing.
func wantNoPool(t *testing.T, what string, b *bank.Bank, call func(*bank.Bank) (*pool.Pool, error), want error) {
	t.Helper()
	done, waits := b.Done(), b.Pending()
	p, err := call(b)
	wantError(t, what, err, want)
	if p != nil || b.Done() != done || b.Pending() != waits {
		t.Fatalf("%s: a pool, or something was written", what)
	}
}

func TestP19_1OpenNone(t *testing.T) {
	wantNoPool(t, "no devices", bank.New(), pool.Open, api.ErrNone)
	b := banked(t, 1, 2, 50)
	wantNoPool(t, "noughts", b, pool.Open, api.ErrNone)
	var next numbers = 7
	for range 200 {
		for device := range 3 {
			bytes := make([]byte, 1+next.below(300))
			for i := range bytes {
				bytes[i] = byte(next.below(256))
			}
			must(t, "Fill", b.Fill(device, bytes))
		}
		wantNoPool(t, "any bytes", b, pool.Open, api.ErrNone)
	}
	// All devices are detached.
	w := made(t, 50)
	must(t, "Detach", w.b.Detach(0))
	wantNoPool(t, "detached", w.b, pool.Open, api.ErrNone)
}

// TestP19_1OpenGone has members that are detached, too small, or not the bank's at all.
func TestP19_1OpenGone(t *testing.T) {
	for device := range 3 {
		w := made(t, 50, 50, 50)
		must(t, "Detach", w.b.Detach(device))
		wantNoPool(t, "detached", w.b, pool.Open, api.ErrGone)
	}
	member := func(state, size int) roster.Entry { return roster.Entry{State: state, Size: size} }
	for _, c := range []struct {
		want error
		list []roster.Entry
	}{
		{nil, []roster.Entry{member(api.Active, 50), member(api.Active, 40)}},
		{nil, []roster.Entry{member(api.Active, 3), member(api.Draining, 3)}},
		{nil, []roster.Entry{member(api.Active, 50), member(api.Removed, 4096)}},
		{nil, []roster.Entry{member(api.Active, 50), member(api.Active, 40), member(api.Removed, 70)}},
		{api.ErrGone, []roster.Entry{member(api.Active, 51), member(api.Active, 40)}},
		{api.ErrGone, []roster.Entry{member(api.Active, 50), member(api.Active, 41)}},
		{api.ErrGone, []roster.Entry{member(api.Active, 50), member(api.Draining, 4096)}},
		{api.ErrGone, []roster.Entry{member(api.Active, 50), member(api.Active, 40), member(api.Active, 3)}},
		{api.ErrGone, []roster.Entry{member(api.Active, 50), member(api.Active, 40), member(api.Removed, 3), member(api.Draining, 3)}},
	} {
		b := banked(t, 50, 40)
		lay(t, b, super.Super{Gen: 9, Roster: roster.Roster{List: c.list}})
		if c.want != nil {
			wantNoPool(t, fmt.Sprint(c.list), b, pool.Open, c.want)
			continue
		}
		p, err := pool.Open(b)
		must(t, "Open", err)
		w := &world{T: t, b: b, p: p}
		w.wantGen(9)
	}
}

// lay writes a superblock on the members that the bank has.
func lay(t *testing.T, b *bank.Bank, s super.Super) {
	t.Helper()
	sector, err := s.Bytes()
	must(t, "Bytes", err)
	for _, device := range s.Roster.Members() {
		if device < len(b.Sizes()) {
			must(t, "Write", b.Write(device, s.Gen%api.Slots, sector))
		}
	}
	keepAll(b)
}

// TestP19_1OpenTree has trees that are not right.
func TestP19_1OpenTree(t *testing.T) {
	w := made(t, 30, 30)
	w.create(1, 20, span(1, 20)...)
	must(t, "Flush", w.p.Flush())
	good := w.p.Manager().Root()
	s, _, err := super.Read(w.b)
	must(t, "Read", err)
	page := func(device, sector int, err error) error { return fault.Wrap("page", device, sector, err) }
	wrong := map[int]error{
		space.Addr(0, 1):        page(0, 1, api.ErrNode),
		space.Addr(7, 5):        page(7, 5, fault.Wrap("read", 7, 5, api.ErrDevice)),
		space.Addr(1, 30):       page(1, 30, fault.Wrap("read", 1, 30, api.ErrRange)),
		w.p.Manager().Data()[0]: nil,
		1 << 61:                 nil,
	}
	for _, addr := range w.p.Manager().Pages() {
		if addr != good {
			wrong[addr] = nil
		}
	}
	for root, want := range wrong {
		s.Root = root
		lay(t, w.b, s)
		done, waits := w.b.Done(), w.b.Pending()
		p, err := pool.Open(w.b)
		if err == nil || p != nil || w.b.Done() != done || w.b.Pending() != waits {
			t.Fatalf("a pool of the tree %d, %v", root, err)
		}
		if want != nil {
			wantError(t, "Open", err, want)
		}
	}
	s.Root = good
	lay(t, w.b, s)
	w.open()
	w.want(1, 0, span(1, 20)...)

	// Each page is bad, or has something else.
	for _, addr := range w.p.Manager().Pages() {
		device, sector := space.At(addr)
		must(t, "Bad", w.b.Bad(device, sector, true))
		wantNoPool(t, "bad", w.b, pool.Open, fault.Wrap("page", device, sector, fault.Wrap("read", device, sector, api.ErrRead)))
		must(t, "Bad", w.b.Bad(device, sector, false))
		was, err := w.b.Read(device, sector)
		must(t, "Read", err)
		must(t, "Write", w.b.Write(device, sector, of(77)))
		done := w.b.Done()
		if p, err := pool.Open(w.b); err == nil || p != nil || w.b.Done() != done {
			t.Fatalf("a pool without the page %d", addr)
		}
		must(t, "Write", w.b.Write(device, sector, was))
	}
	w.open()
	w.want(1, 0, span(1, 20)...)
}

// TestP19_1OpenSome has a superblock that counts on some members only: behind Open it counts on all.
func TestP19_1OpenSome(t *testing.T) {
	for choice := 1; choice < 1<<3; choice++ {
		w := made(t, 30, 30, 30)
		w.create(1, 20, 1, 2)
		must(t, "Flush", w.p.Flush())
		gen := w.gen()
		for device := range 3 {
			if choice&(1<<device) == 0 {
				must(t, "Write", w.b.Write(device, gen%api.Slots, of(77)))
			}
		}
		keepAll(w.b)
		done := w.b.Done()
		w.open()
		w.wantGen(gen)
		w.want(1, 0, 1, 2)
		switch n := w.b.Done() - done; {
		case w.b.Pending() != 0:
			t.Fatal("what was written may be lost")
		case choice == 7 && n != 0:
			t.Fatalf("%d writes and flushes, though it counts on all members", n)
		case choice != 7 && n != 6:
			t.Fatalf("%d writes and flushes", n)
		}
		// The second one writes nothing.
		done = w.b.Done()
		before := w.tells()
		w.open()
		if w.b.Done() != done {
			t.Fatal("Open writes once more what counts on all members")
		}
		wantSame(t, "Open twice", w.tells(), before)
	}
}

// TestP19_1OpenSomePower lets the power go at each write of Open.
func TestP19_1OpenSomePower(t *testing.T) {
	for n, want := range []error{fault.Wrap("write", 0, 1, api.ErrDown), fault.Wrap("write", 1, 1, api.ErrDown), fault.Wrap("flush", 0, 0, api.ErrDown), fault.Wrap("flush", 1, 0, api.ErrDown)} {
		w := made(t, 30, 30)
		w.create(1, 20, 1, 2)
		must(t, "Flush", w.p.Flush())
		must(t, "Write", w.b.Write(1, 1, of(77)))
		keepAll(w.b)
		w.b.Arm(n)
		p, err := pool.Open(w.b)
		wantError(t, "Open", err, want)
		if p != nil {
			t.Fatal("a pool beside an error")
		}
		w.crash()
		w.wantGen(3)
		w.want(1, 0, 1, 2)
	}
}

// TestP19_1OpenDraining has a mover behind Open just if a member is Draining.
func TestP19_1OpenDraining(t *testing.T) {
	w := made(t, 80, 70, 70)
	w.create(1, 20, span(1, 20)...)
	w.open()
	_, err := w.p.Move()
	wantError(t, "Move", err, api.ErrIdle)
	w.create(2, 20, span(1, 20)...)
	for device := range 2 {
		must(t, "Evacuate", w.p.Evacuate(device))
		w.step(mover.Planned, mover.Read, mover.Wrote)
		w.crash()
		i := w.p.Info()
		if i.Leaving != device || i.Copies != 0 || i.Roster.State(device) != api.Draining {
			t.Fatalf("Open: %v", i)
		}
		// What was being copied is begun anew.
		w.step(mover.Planned)
		w.open()
		w.leave(func(int) {})
		w.crash()
		i = w.p.Info()
		if i.Leaving != -1 || i.Roster.State(device) != api.Removed {
			t.Fatalf("Open: %v", i)
		}
		w.want(2, 0, span(1, 20)...)
	}
}

// TestP19_1OpenManyDraining has a roster that no pool makes: several members are Draining, and no other one is there.
func TestP19_1OpenManyDraining(t *testing.T) {
	b := banked(t, 50, 50, 50)
	list := slices.Repeat([]roster.Entry{{State: api.Draining, Size: 50}}, 3)
	lay(t, b, super.Super{Gen: 1, Roster: roster.Roster{List: list}})
	p, err := pool.Open(b)
	must(t, "Open", err)
	w := &world{T: t, b: b, p: p}
	w.refuses("Create", api.ErrFull, func() error { return p.Create(1, 10) })
	for device := range 2 {
		if p.Info().Leaving != device {
			t.Fatalf("the device %d is left, not %d", p.Info().Leaving, device)
		}
		w.step(mover.Empty)
	}
	// No superblock is without members.
	w.refuses("Move", api.ErrForm, func() error {
		did, err := p.Move()
		if did != 0 {
			t.Fatalf("Move tells %d beside an error", did)
		}
		return err
	})
	must(t, "Cancel", p.Cancel())
	w.create(1, 10, 1, 2, 3)
	w.open()
	if w.p.Info().Leaving != -1 {
		t.Fatalf("Open: %v", w.p.Info())
	}
}

// TestP19_1OpenLast has the greatest generation: nothing can be committed any more, and all that is refused for that changes nothing.
func TestP19_1OpenLast(t *testing.T) {
	w := made(t, 50, 50)
	w.create(1, 10, 1, 2, 3)
	must(t, "Flush", w.p.Flush())
	s, _, err := super.Read(w.b)
	must(t, "Read", err)
	s.Gen = 1 << 61
	lay(t, w.b, s)
	w.open()
	before := w.tells()
	for what, call := range map[string]func() error{
		"Create": func() error { return w.p.Create(2, 10) },
		"Delete": func() error { return w.p.Delete(1) },
		"Flush":  w.p.Flush,
		"Drain":  func() error { return w.p.Evacuate(0) },
	} {
		wantError(t, what, call(), api.ErrForm)
		wantSame(t, what, w.tells(), before)
	}
}
