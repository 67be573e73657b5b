package pool_test

import (
	"fmt"
	"slices"
	"strings"
	"testing"

	"portage/api"
	"portage/audit"
	"portage/bank"
	"portage/fault"
	"portage/mover"
	"portage/pool"
	"portage/super"
)

// hid is a life in which the power went in a call, opened behind that while sectors were bad. They still are.
type hid struct {
	*life
	bad slots
	// hidden is the superblock that would have been read if all could have been.
	hidden super.Super
	// name tells what was played.
	name string
}

// hides lets the power go in a call of a scene behind n writes and flushes, and opens the pool while sectors are bad. It tells nothing if what was durable can't be read, and whether the power went.
func (s shot) hides(t *testing.T, n, way int, bad slots) (h *hid, went bool) {
	t.Helper()
	l := scene(t, s.steps)
	s.ahead(l)
	behind := l.now.clone()
	must(t, s.call.name, s.call.on(behind))
	l.b.Arm(n)
	s.call.do(l.p)
	if !l.b.Down() {
		return nil, false
	}
	l.await(behind)
	next := numbers(100*n + way)
	crashes(l.b, way, &next)
	hidden := read(l.b)
	set(t, l.b, bad, true)
	p, err := pool.Open(l.b)
	if err != nil || p.Info().Gen < l.gen {
		return nil, true
	}
	l.p = p
	l.recover(behind)
	name := fmt.Sprintf("%s behind %d steps, cut behind %d with %s kept, %b was bad", s.call.name, s.steps, n, keeps[way].name, bad)
	return &hid{l, bad, hidden, name}, true
}

// commitsOf are calls of each kind that commits, and the steps that do.
func commitsOf(t *testing.T) []shot {
	var list []shot
	for i, s := range shots(t) {
		if word, _, _ := strings.Cut(s.call.name, "("); word != "Write" && word != "Discard" && (i%2 == 0 || word != "Cancel") {
			list = append(list, s)
		}
	}
	for steps := 0; !isOver(t, steps); steps++ {
		l := scene(t, steps)
		gen := l.gen
		if l.run(moves()); l.gen != gen {
			list = append(list, shot{steps, func(*life) {}, moves()})
		}
	}
	return list
}

// firsts are what a pool does first behind its opening: calls of each kind, as far as the volumes and the devices allow them.
func (h *hid) firsts() []call {
	list := []call{
		writes(3, 0, 201, 202), writes(1, 4, span(211, 8)...), discards(1, 2, 1), discards(3, 0, 9), flushes(),
		creates(7, 9), snapshots(7, 1), deletes(2), resizes(1, 4), resizes(2, 40),
	}
	i := h.p.Info()
	if i.Leaving >= 0 {
		list = append(list, cancels(), steps(1), steps(2), steps(3), steps(4), steps(5))
	} else if len(i.Roster.Actives()) > 1 {
		list = append(list, evacuates(i.Roster.Actives()[1]))
	}
	if device := len(i.Roster.List); device < len(h.b.Sizes()) {
		list = append(list, adds(device))
	}
	return slices.DeleteFunc(list, func(c call) bool { return c.on(h.now.clone()) != nil })
}

// steps are so many steps of a mover, as long as the device is not left.
func steps(count int) call {
	return aside(fmt.Sprintf("%d steps", count), func(p *pool.Pool) error {
		for range count {
			if did, err := p.Move(); err != nil || did == mover.Empty {
				return err
			}
		}
		return nil
	})
}

// all are the bytes of all sectors of a bank, by devices.
func all(t *testing.T, b *bank.Bank, bad slots) [][]string {
	t.Helper()
	set(t, b, bad, false)
	defer set(t, b, bad, true)
	var list [][]string
	for device, size := range b.Sizes() {
		var sectors []string
		for sector := range size {
			data, err := b.Read(device, sector)
			must(t, "Read", err)
			sectors = append(sectors, string(data))
		}
		list = append(list, sectors)
	}
	return list
}

// isWiped tells whether nothing was written but noughts in sectors that were bad.
func isWiped(now, was [][]string, bad slots) bool {
	for device := range was {
		for sector, data := range now[device] {
			isNought := strings.Trim(data, "\x00") == ""
			if data != was[device][sector] && !(isNought && sector < api.Slots && bad.has(device, sector)) {
				return false
			}
		}
	}
	return true
}

// wantSound demands that what stands on the devices is sound, whatever is bad, and is of a generation.
func (h *hid) wantSound(gen int) {
	h.Helper()
	r, err := audit.Audit(h.b)
	if err != nil || r.Gen != gen {
		h.Fatalf("%s: Audit: %+v, %v, and the generation was %d", h.name, r, err, gen)
	}
}

// does makes a call, lets the sectors be good ahead of it or behind it, crashes, and demands that the pool is its own.
func (h *hid) does(c call, isEarly bool, way int) {
	h.Helper()
	h.name += ", then " + c.name
	if isEarly {
		set(h.T, h.b, h.bad, false)
	}
	done := h.b.Done()
	h.run(c)
	wrote := h.b.Done() > done
	set(h.T, h.b, h.bad, false)
	if !wrote && !h.hidden.Same(read(h.b)) {
		h.Fatalf("%s: nothing was written, and %v counts", h.name, read(h.b))
	}
	if !wrote {
		return
	}
	gen, durable := h.gen, h.durable
	next := numbers(way)
	crashes(h.b, way, &next)
	h.wantSound(gen)
	h.open()
	if h.p.Info().Gen != gen {
		h.Fatalf("%s: the generation is %d, and was %d", h.name, h.p.Info().Gen, gen)
	}
	h.recover(durable)
}

// cut makes a call in which the power goes, too, and tells whether it did: the pool is its own behind that, or as the call would have made it; or nothing was written yet.
func (h *hid) cut(c call, m, way int) bool {
	h.Helper()
	h.name += fmt.Sprintf(", then %s behind %d", c.name, m)
	was := all(h.T, h.b, h.bad)
	behind := h.now.clone()
	must(h.T, c.name, c.on(behind))
	h.b.Arm(m)
	c.do(h.p)
	if !h.b.Down() {
		return false
	}
	h.await(behind)
	next := numbers(m)
	crashes(h.b, way, &next)
	set(h.T, h.b, h.bad, false)
	if s := read(h.b); s.Same(h.hidden) && isWiped(all(h.T, h.b, 0), was, h.bad) {
		return true
	}
	gen := h.gen
	h.wantSound(read(h.b).Gen)
	h.open()
	if now := h.p.Info().Gen; now < gen || now > gen+3 {
		h.Fatalf("%s: the generation is %d, and was %d", h.name, now, gen)
	}
	h.recover(behind)
	return true
}

// TestP19_7Hidden lets the power go at each write and flush of calls that commit, and has sectors for superblocks bad while the pool is opened behind that and makes one call of each kind: when they are good again the pool is as it was behind this call.
func TestP19_7Hidden(t *testing.T) {
	for at, s := range commitsOf(t) {
		t.Run(fmt.Sprintf("%s %d", s.call.name, s.steps), func(t *testing.T) {
			t.Parallel()
			differ, went := 0, true
			for n := 0; went; n++ {
				for i, bad := range some(4) {
					way := (at + n + i) % len(keeps)
					if i%3 == 0 {
						way = 1
					}
					var h *hid
					if h, went = s.hides(t, n, way, bad); h == nil {
						continue
					}
					if h.hidden.Gen != h.gen {
						differ++
					}
					list := h.firsts()
					h.does(list[(at+n+i)%len(list)], i%2 == 0, (n+i)%len(keeps))
				}
			}
			if differ < 3 {
				t.Fatalf("%d superblocks could not be read", differ)
			}
		})
	}
}

// TestP19_7HiddenCut has the power go in that call, too, at each write and flush.
func TestP19_7HiddenCut(t *testing.T) {
	for at, s := range commitsOf(t) {
		t.Run(fmt.Sprintf("%s %d", s.call.name, s.steps), func(t *testing.T) {
			t.Parallel()
			went := true
			for n := 0; went; n++ {
				bads := some(4)
				bad := bads[len(bads)-1-(at+n)%2]
				if n%3 == 0 {
					bad = bads[(at+n)%len(bads)]
				}
				isCut := true
				for m := 0; isCut; m++ {
					var h *hid
					if h, went = s.hides(t, n, 1, bad); h == nil || h.hidden.Gen == h.gen {
						break
					}
					list := h.firsts()
					isCut = h.cut(list[(at+n)%len(list)], m, (n+m)%len(keeps))
				}
			}
		})
	}
}

// writesOf is how many writes and flushes a call makes in a scene.
func (s shot) writesOf(t *testing.T) int {
	t.Helper()
	l := scene(t, s.steps)
	s.ahead(l)
	done := l.b.Done()
	l.run(s.call)
	return l.b.Done() - done
}

// TestP19_7HiddenMoves has a Flush hidden whose superblocks were all written, ahead of each step by which a device is left, and some steps behind that, with the power going at each write and flush of these.
func TestP19_7HiddenMoves(t *testing.T) {
	for at := 0; !isOver(t, at); at++ {
		for count := 1; count <= 4; count++ {
			t.Run(fmt.Sprint(at, count), func(t *testing.T) {
				t.Parallel()
				s := shot{at, func(*life) {}, flushes()}
				n := s.writesOf(t) - 1
				bad := rows(3, scene(t, at).gen+1)
				isCut := true
				for m := 0; isCut; m++ {
					h, _ := s.hides(t, n, 1, bad)
					if h == nil || h.hidden.Gen != h.gen+1 {
						t.Fatalf("behind %d the Flush is not hidden", n)
					}
					isCut = h.cut(steps(count), m, (n+m)%len(keeps))
				}
				h, _ := s.hides(t, n, 1, bad)
				h.does(steps(count), at%2 == 0, count)
			})
		}
	}
}

// rows are all sectors of the slot of a generation, on so many devices.
func rows(devices, gen int) (bad slots) {
	for device := range devices {
		bad |= 1 << (device*api.Slots + gen%api.Slots)
	}
	return bad
}

// paging is a life that leaves the device 0, on which there are just pages.
func paging(t *testing.T) *life {
	t.Helper()
	l := lives(t, 40, 39)
	l.run(creates(1, 9), writes(1, 0, 1, 2), flushes())
	for id := 2; id < 8; id++ {
		l.run(creates(id, 1), writes(id, 0, id))
	}
	l.run(evacuates(0))
	for onDevice(0, l.p.Manager().Data()) > 0 {
		l.run(moves())
	}
	if onDevice(0, l.p.Manager().Pages()) == 0 {
		t.Fatal("there is no page on the device")
	}
	return l
}

// TestP19_7HiddenMoved has the power go in a step that writes pages anew, at each write and flush, ahead of which a Create is hidden.
func TestP19_7HiddenMoved(t *testing.T) {
	for way := range keeps {
		l := paging(t)
		done := l.b.Done()
		l.run(creates(9, 1))
		n := l.b.Done() - done - 1
		isCut := true
		for m := 0; isCut; m++ {
			l := paging(t)
			l.b.Arm(n)
			if l.p.Create(9, 1) == nil || !l.b.Down() {
				t.Fatal("the power did not go in Create")
			}
			keepAll(l.b)
			h := &hid{l, rows(2, l.gen+1), read(l.b), fmt.Sprint("Create behind ", n)}
			set(t, l.b, h.bad, true)
			l.open()
			l.same()
			isCut = h.cut(moves(), m, way)
			if !isCut && (h.p.Info().Leaving != 0 || onDevice(0, h.p.Manager().Pages()) > 0) {
				t.Fatal("the step wrote no pages anew")
			}
		}
	}
}

// last makes all sectors of the slot of the last commit bad, and opens the pool: it tells the commit ahead of that.
func (l *life) last() (bad slots) {
	l.Helper()
	bad = rows(len(l.b.Sizes()), l.gen)
	l.b.Crash()
	set(l.T, l.b, bad, true)
	l.open()
	if l.p.Info().Gen != l.gen-1 {
		l.Fatalf("the generation is %d", l.p.Info().Gen)
	}
	return bad
}

// refusals are calls that a scene's pool refuses, or that change nothing.
func refusals() []call {
	return []call{
		creates(0, 5), creates(1, 5), creates(9, 0), snapshots(1, 2), snapshots(9, 8), deletes(9), resizes(9, 5), resizes(1, 0), resizes(1, -3), resizes(1, api.MaxBlocks+1),
		writes(9, 0, 1), writes(1, 0), writes(1, 0, span(1, 9)...), writes(1, -1, 1), writes(1, 19, 1, 2), writes(3, 1<<40, 1),
		discards(9, 0, 1), discards(1, 0, 0), discards(1, 0, -1), discards(1, 19, 2), discards(1, -1, 1), discards(1, 16, 3), discards(3, 5, 4),
		adds(0), adds(3), adds(-1), grows(0), grows(1), grows(9), evacuates(9), evacuates(-1),
	}
}

// asks asks a pool, and plans a region if a device is left, of which a block is read; a step that can't read it is refused.
func (l *life) asks() {
	l.Helper()
	l.tells()
	_, err := l.p.Read(9, 0, 1)
	wantError(l.T, "Read", err, api.ErrVolume)
	if l.p.Info().Leaving < 0 {
		return
	}
	l.step(mover.Planned)
	for sector := range l.b.Sizes()[0] {
		must(l.T, "Bad", l.b.Bad(0, sector, true))
	}
	_, err = l.p.Move()
	if code, _ := fault.CodeOf(err); code != api.ErrRead {
		l.Fatalf("Move: %v", err)
	}
	for sector := range l.b.Sizes()[0] {
		must(l.T, "Bad", l.b.Bad(0, sector, false))
	}
	l.step(mover.Read)
}

// TestP19_7HiddenKept has the last commit, which was acknowledged, hidden from an opening whose pool writes nothing: it is asked, it refuses, or a step writes nothing. The commit is there when it can be read again.
func TestP19_7HiddenKept(t *testing.T) {
	for _, steps := range []int{-1, 0, 1, 4} {
		list := refusals()
		if steps < 0 {
			list = append(list, cancels(), moves())
		} else {
			list = append(list, evacuates(1), evacuates(0))
		}
		l := scene(t, steps)
		l.run(flushes())
		gen := l.gen
		bad := l.last()
		done, before := l.b.Done(), l.tells()
		for _, c := range list {
			if err := c.do(l.p); err == nil && !strings.HasPrefix(c.name, "Discard") {
				t.Fatalf("%s is not refused", c.name)
			}
			wantSame(t, c.name, l.tells(), before)
			if l.b.Done() != done {
				t.Fatalf("%s: something was written", c.name)
			}
		}
		l.asks()
		if l.b.Done() != done {
			t.Fatal("something was written")
		}
		set(t, l.b, bad, false)
		l.b.Crash()
		l.open()
		l.wantGen(gen)
		l.same()
	}
}

// format makes a Format in which the power goes behind m writes and flushes, lets the sectors be good, and tells whether all was done. Behind that the pool is the new one, or, if it was not done, its own, or what could not be read as long as it wrote nothing.
func (h *hid) format(own super.Super, m, way int, wrote bool) bool {
	h.Helper()
	h.name += fmt.Sprintf(", then a Format behind %d", m)
	fresh := anew(h.b)
	h.b.Arm(m)
	_, err := pool.Format(h.b)
	next := numbers(m)
	crashes(h.b, way, &next)
	set(h.T, h.b, h.bad, false)
	now := read(h.b)
	h.wantSound(now.Gen)
	_, got := sees(h.T, h.b)
	switch {
	case now.Same(fresh.Super), err != nil && isNew(now, h.b):
		if len(got.Volumes) > 0 {
			h.Fatalf("%s: the new pool has %v", h.name, got.Volumes)
		}
	case err != nil && now.Same(own):
		h.open()
		h.recover(nil)
	case err == nil || wrote || !now.Same(h.hidden):
		h.Fatalf("%s: %v counts", h.name, now)
	}
	return err == nil
}

// TestP19_7HiddenFormat has a Format behind the opening, over a pool that wrote something or not, with the sectors good again or not, and the power going at each write of it.
func TestP19_7HiddenFormat(t *testing.T) {
	s := shot{-1, func(*life) {}, creates(4, 7)}
	for i, bad := range some(3) {
		for kind := (i + i/3) % 2; kind < 4; kind += 2 {
			t.Run(fmt.Sprintf("%b %d", bad, kind), func(t *testing.T) {
				t.Parallel()
				wrote, isEarly := kind%2 == 1, kind > 1
				went := true
				for n := 0; went; n++ {
					isDone := false
					for m := 0; !isDone; m++ {
						var h *hid
						if h, went = s.hides(t, n, 1, bad); h == nil {
							break
						}
						if wrote {
							h.run(writes(3, 0, 201), flushes())
						}
						seen := read(h.b)
						set(t, h.b, bad, false)
						own := read(h.b)
						if !wrote {
							own = seen
						}
						// What was acknowledged last must be there to be read.
						set(t, h.b, bad, !isEarly && own.Same(seen))
						isDone = h.format(own, m, (i+n+m)%len(keeps), wrote)
					}
				}
			})
		}
	}
}

// TestP19_7HiddenElsewhere has sectors bad where no superblock of the pool can be: on a device that is Removed, or of one that has too few sectors for them. They cost no write, and no error.
func TestP19_7HiddenElsewhere(t *testing.T) {
	var counts []int
	for kind := range 4 {
		w := made(t, 30, 30)
		w.create(1, 9, 1, 2, 3)
		w.left(0)
		if kind > 0 {
			for sector := range 30 {
				must(t, "Bad", w.b.Bad(0, sector, true))
			}
		}
		if kind > 1 {
			device, err := w.b.Add(1)
			must(t, "Add", err)
			if kind > 2 {
				must(t, "Bad", w.b.Bad(device, 0, true))
			}
		}
		w.open()
		done := w.b.Done()
		w.write(1, 5, 5)
		w.create(2, 9, 7)
		counts = append(counts, w.b.Done()-done)
		w.crash()
		w.want(1, 0, 1, 2, 3)
	}
	// A device that is none of the pool's yet may have a superblock by which it is: that costs a write and a flush.
	if counts[1] != counts[0] || counts[2] != counts[0] || counts[3] != counts[0]+2 {
		t.Fatalf("writes and flushes: %v", counts)
	}
}

// TestP19_7HiddenDetached has a device that is none of the pool's, and whose sectors could not be read at the opening, detached ahead of the first write.
func TestP19_7HiddenDetached(t *testing.T) {
	w := made(t, 30, 30)
	device, err := w.b.Add(30)
	must(t, "Add", err)
	set(t, w.b, 0b110000, true)
	w.open()
	must(t, "Detach", w.b.Detach(device))
	w.create(1, 9, 1)
	w.crash()
	w.wantGen(2)
}

// TestP19_7HiddenGone has a member detached behind an opening that knows nothing of the last commit: a call that is refused for that writes nothing on the others, either.
func TestP19_7HiddenGone(t *testing.T) {
	for device := range 3 {
		l := scene(t, -1)
		l.run(flushes())
		bad := l.last()
		must(t, "Detach", l.b.Detach(device))
		bad &^= 3 << (device * api.Slots)
		was := all(t, l.b, bad)
		for _, c := range []call{creates(7, 3), flushes()} {
			if code, _ := fault.CodeOf(c.do(l.p)); code != api.ErrGone {
				t.Fatalf("%s: error %d", c.name, code)
			}
		}
		if !slices.EqualFunc(all(t, l.b, bad), was, slices.Equal) {
			t.Fatal("something was written")
		}
	}
}

// harmUnread makes a call in which the power may go, and opens the pool behind that while sectors are bad that leave what was durable to be read. It tells which are bad still.
func (l *life) harmUnread(next *numbers) slots {
	l.Helper()
	c := l.change(next)
	switch kind := next.below(4); {
	case kind == 0:
		c = flushes()
	case kind == 1 && l.p.Info().Leaving >= 0:
		c = moves()
	}
	behind := l.now.clone()
	if c.on(behind) != nil {
		return 0
	}
	gen := l.gen
	l.b.Arm(next.below(24))
	if err := c.do(l.p); !l.b.Down() {
		l.b.Arm(-1)
		must(l.T, c.name, err)
		l.note(behind)
		return 0
	}
	l.await(behind)
	crashes(l.b, next.below(len(keeps)), next)
	list := some(len(l.b.Sizes()))
	bad := list[next.below(len(list))]
	if next.below(2) == 0 {
		// No superblock of the next generation can be read.
		bad = list[len(list)-api.Slots+(gen+1)%api.Slots]
	}
	for device, size := range l.b.Sizes() {
		if size == 0 {
			bad &^= 3 << (device * api.Slots)
		}
	}
	set(l.T, l.b, bad, true)
	if s := read(l.b); s.Gen < gen {
		set(l.T, l.b, bad, false)
		bad = 0
	}
	l.open()
	l.recover(behind)
	return bad
}

// TestP19_7HiddenLong goes through long lives in which the power goes again and again, and sectors are bad in the openings behind that.
func TestP19_7HiddenLong(t *testing.T) {
	for seed := range 24 {
		t.Run(fmt.Sprint(seed), func(t *testing.T) {
			t.Parallel()
			next := numbers(seed)
			l := lives(t, 200, 190, 180)
			l.run(creates(1, 40), creates(2, 30), snapshots(3, 1))
			differ := 0
			for range 500 {
				for range next.below(6) {
					l.run(l.change(&next))
					l.device(&next)
				}
				bad := l.harmUnread(&next)
				set(t, l.b, bad, false)
				hidden := read(l.b)
				if hidden.Gen == l.gen {
					continue
				}
				differ++
				set(t, l.b, bad, next.below(2) == 0)
				switch next.below(3) {
				case 0:
					l.run(flushes())
				case 1:
					l.run(creates(9, 1), deletes(9))
				}
				for len(l.now) == 0 {
					l.run(creates(1, 9))
				}
				for id, v := range l.now {
					l.run(writes(id, 0, span(1+next.below(60000), min(v.size, api.MaxRun))...))
				}
				set(t, l.b, bad, false)
				gen, durable := l.gen, l.durable
				crashes(l.b, next.below(len(keeps)), &next)
				if l.open(); l.p.Info().Gen != gen {
					t.Fatalf("the generation is %d, not %d: %v counts", l.p.Info().Gen, gen, hidden)
				}
				l.recover(durable)
			}
			if differ < 2 {
				t.Fatalf("%d superblocks could not be read", differ)
			}
		})
	}
}
