package thin_test

import (
	"cmp"
	"errors"
	"maps"
	"reflect"
	"slices"
	"testing"

	"portage/api"
	"portage/refs"
	"portage/space"
	"portage/thin"
)

// content has volumes that share pages and blocks, some that were shared and are fenced, and one whose origin is gone.
func (w *world) content() {
	w.Helper()
	w.create(1, 40)
	w.write(1, 0, span(1, 8)...)
	w.write(1, 8, span(9, 4)...)
	w.snapshot(2, 1)
	w.write(1, 0, 31, 32)
	w.create(3, 20)
	w.write(3, 2, 41, 42, 43)
	w.snapshot(4, 3)
	w.discard(4, 3, 1)
	w.delete(3)
}

// settled is content that was saved and settled.
func (w *world) settled() {
	w.Helper()
	w.content()
	w.save()
	w.m.Settle()
}

// scenes are what may have come ahead of a call that is refused.
func scenes() map[string]func(w *world) {
	return map[string]func(w *world){
		"fresh":          (*world).content,
		"saved":          func(w *world) { w.content(); w.save() },
		"settled":        (*world).settled,
		"behind":         func(w *world) { w.settled(); w.write(1, 5, 51); w.discard(2, 1, 2); w.resize(1, 30) },
		"begun, fresh":   func(w *world) { w.content(); w.begin() },
		"begun, settled": func(w *world) { w.settled(); w.begin() },
		"begun, changed": func(w *world) { w.settled(); w.begin(); w.write(1, 5, 51); w.delete(4); w.create(5, 5) },
		"begun, freed":   func(w *world) { w.content(); w.begin(); w.delete(4); w.discard(2, 1, 2); w.m.Settle() },
		"begun, saved": func(w *world) {
			w.content()
			w.begin()
			w.save()
			w.write(1, 5, 51)
			w.create(5, 5)
			w.snapshot(6, 2)
		},
		"begun, twice": func(w *world) {
			w.settled()
			w.begin()
			w.write(1, 5, 51)
			w.save()
			w.delete(4)
			w.save()
			w.m.Settle()
			w.write(2, 5, 52)
		},
		"begun, emptied": func(w *world) {
			w.settled()
			w.begin()
			w.delete(4)
			w.discard(1, 0, 40)
			w.discard(2, 0, 40)
			w.save()
			w.write(1, 0, span(61, 8)...)
		},
	}
}

// call is a call that may be refused for want of room, or by a device.
type call struct {
	name string
	do   func(m *thin.Manager) error
	// inPlace says that bytes may be written where they are.
	inPlace bool
}

// calls are such calls.
func calls() []call {
	write := func(name string, id, block int, list []int, inPlace bool) call {
		return call{name, func(m *thin.Manager) error { return m.Write(id, block, of(list...)) }, inPlace}
	}
	return []call{
		write("Write of one", 1, 3, []int{71}, false),
		write("Write of a new one", 1, 29, []int{71}, false),
		write("Write of many", 1, 0, span(71, 8), true),
		write("Write of many new ones", 1, 20, span(71, 8), false),
		write("Write of some", 2, 8, span(71, 8), false),
		{"Discard of one", func(m *thin.Manager) error { return m.Discard(1, 3, 1) }, false},
		{"Discard of some", func(m *thin.Manager) error { return m.Discard(1, 1, 6) }, false},
		{"Discard of many", func(m *thin.Manager) error { return m.Discard(2, 0, 11) }, false},
		{"Resize", func(m *thin.Manager) error { return m.Resize(1, 2) }, false},
		{"Save", func(m *thin.Manager) error { _, err := m.Save(); return err }, false},
		{"Swap", func(m *thin.Manager) error { return m.Swap(0, nil, nil) }, false},
	}
}

// scarce leaves just so many addresses free that the devices take, and tells those that it took.
func (w *world) scarce(room int) []int {
	w.Helper()
	sizes := w.b.Sizes()
	s := w.m.Space()
	var taken []int
	for {
		addr, err := s.Take()
		if err != nil {
			break
		}
		if device, sector := space.At(addr); sector >= sizes[device] {
			must(w.T, "Give", s.Give(addr))
			break
		}
		taken = append(taken, addr)
	}
	room = min(room, len(taken))
	for _, addr := range taken[:room] {
		must(w.T, "Give", s.Give(addr))
	}
	return taken[room:]
}

// blocks are all blocks that are mapped, in order.
func (w *world) blocks() []refs.Owner {
	return slices.SortedFunc(maps.Keys(w.tells().Blocks), func(a, b refs.Owner) int {
		return cmp.Or(cmp.Compare(a.Vol, b.Vol), cmp.Compare(a.Block, b.Block))
	})
}

// later is what a manager answers to calls that come later.
type later struct {
	Told  []told
	Errs  []string
	Addrs []int
}

// did notes what a call answered.
func (x *later) did(err error) {
	text := ""
	if err != nil {
		text = err.Error()
	}
	x.Errs = append(x.Errs, text)
}

// tell notes all that a manager tells.
func (x *later) tell(w *world) { x.Told = append(x.Told, w.tells()) }

// writes writes all blocks that are mapped, so that it is seen which may be written where they are.
func (x *later) writes(w *world) {
	for _, o := range w.blocks() {
		x.did(w.m.Write(o.Vol, o.Block, of(o.Block+100)))
		x.Addrs = append(x.Addrs, w.m.Map(o.Vol, o.Block))
	}
}

// answers are what a manager answers from now on: with the room that is left, with what these others have, at the end of what was begun, and behind that.
func (w *world) answers(others []int, end func(m *thin.Manager) error) later {
	w.Helper()
	var x later
	x.writes(w)
	x.tell(w)
	for _, addr := range others {
		x.did(w.m.Space().Give(addr))
	}
	x.did(w.m.Write(1, 10, of(span(111, 8)...)))
	x.did(w.m.Snapshot(20, 1))
	x.did(w.m.Discard(1, 0, 3))
	_, err := w.m.Save()
	x.did(err)
	x.tell(w)
	x.did(end(w.m))
	x.tell(w)
	x.writes(w)
	_, err = w.m.Save()
	x.did(err)
	w.m.Settle()
	x.tell(w)
	return x
}

// wantAsIfNot demands of two managers that are alike that the one, in which a call is refused some times, answers as the other one from then on, and tells whether it is refused.
func wantAsIfNot(t *testing.T, what string, want api.Code, made func() (*world, []int), do func(w *world) error) bool {
	t.Helper()
	for _, end := range []func(m *thin.Manager) error{(*thin.Manager).Commit, (*thin.Manager).Back} {
		w, others := made()
		for range 2 {
			before := w.tells()
			err := do(w)
			if err == nil {
				return false
			}
			if !errors.Is(err, want) {
				t.Fatalf("%s: %v, not %v", what, err, want)
			}
			wantSame(t, what, w.tells(), before)
		}
		twin, _ := made()
		twin.keep()
		if got, want := w.answers(others, end), twin.answers(others, end); !reflect.DeepEqual(got, want) {
			t.Fatalf("%s: behind a call that is refused %+v, not %+v", what, got, want)
		}
	}
	return true
}

// wantRefused demands that a call is refused with little room, from none on, till there is enough: it is refused so many times at least, in all scenes together.
func wantRefused(t *testing.T, c call, least int, want api.Code, made func(scene func(w *world), room int) (*world, []int), do func(w *world, room int) error) {
	t.Helper()
	count := 0
	for name, scene := range scenes() {
		for room := 0; ; room += 1 + room/8 {
			if !wantAsIfNot(t, c.name+", "+name, want, func() (*world, []int) { return made(scene, room) }, func(w *world) error { return do(w, room) }) {
				break
			}
			if count++; room > 150 {
				t.Fatalf("%s, %s: it is refused with room for %d", c.name, name, room)
			}
		}
	}
	if count < least {
		t.Fatalf("%s: it is refused %d times", c.name, count)
	}
}

// each has all calls tried, side by side.
func each(t *testing.T, try func(t *testing.T, c call)) {
	for _, c := range calls() {
		t.Run(c.name, func(t *testing.T) {
			t.Parallel()
			try(t, c)
		})
	}
}

// TestP14_3Full has calls refused since there is no room.
func TestP14_3Full(t *testing.T) {
	t.Parallel()
	each(t, func(t *testing.T, c call) {
		wantRefused(t, c, 10, api.ErrFull, func(scene func(w *world), room int) (*world, []int) {
			w := made(t, 80, 20)
			scene(w)
			return w, w.scarce(room)
		}, func(w *world, room int) error { return c.do(w.m) })
	})
}

// TestP14_3Short has calls refused since the device has fewer sectors than the roster says.
func TestP14_3Short(t *testing.T) {
	t.Parallel()
	each(t, func(t *testing.T, c call) {
		wantRefused(t, c, 10, api.ErrRange, func(scene func(w *world), room int) (*world, []int) {
			w := over(t, rostered(150), 80)
			scene(w)
			return w, w.scarce(room)
		}, func(w *world, room int) error { return c.do(w.m) })
	})
}

// TestP14_3Down has calls refused since the power goes at one of their writes. What is written where it is may be there then.
func TestP14_3Down(t *testing.T) {
	t.Parallel()
	each(t, func(t *testing.T, c call) {
		if c.inPlace {
			return
		}
		wantRefused(t, c, 10, api.ErrDown, func(scene func(w *world), room int) (*world, []int) {
			w := made(t, 80, 70)
			scene(w)
			return w, nil
		}, func(w *world, room int) error {
			w.b.Arm(room)
			defer w.keep()
			return c.do(w.m)
		})
	})
}

// swapScene lets a device be left by what is there, with some of its blocks copied elsewhere.
func swapScene(t *testing.T, scene func(w *world), room int) (w *world, from, to, others []int) {
	t.Helper()
	w = made(t, 60, 100)
	scene(w)
	r, err := w.m.Space().Roster().Drain(0)
	must(t, "Drain", err)
	must(t, "Turn", w.m.Turn(r))
	from, to = w.copies(0, 3)
	return w, from, to, w.scarce(room)
}

// copies takes an address for each of the first so many addresses of blocks on a device, and lays there what they have.
func (w *world) copies(device, most int) (from, to []int) {
	w.Helper()
	for _, addr := range w.m.Data() {
		if on, sector := space.At(addr); on == device && len(from) < most {
			data, err := w.b.Read(on, sector)
			must(w.T, "Read", err)
			next, err := w.m.Space().Take()
			must(w.T, "Take", err)
			d, s := space.At(next)
			must(w.T, "Write", w.b.Write(d, s, data))
			from, to = append(from, addr), append(to, next)
		}
	}
	return from, to
}

// TestP14_5SwapRefused has Swap refused, wherever its room or the power ends: in the trees, when it is saved, or in the catalog's tree.
func TestP14_5SwapRefused(t *testing.T) {
	t.Parallel()
	for _, device := range []int{-1, 0, 1} {
		c := call{name: "Swap"}
		least := 15
		if device == 1 {
			least = 5
		}
		var from, to []int
		swap := func(w *world) error { return w.m.Swap(device, from, to) }
		wantRefused(t, c, least, api.ErrFull, func(scene func(w *world), room int) (w *world, others []int) {
			w, from, to, others = swapScene(t, scene, room)
			return w, slices.Concat(others, to)
		}, func(w *world, room int) error { return swap(w) })
		wantRefused(t, c, least, api.ErrDown, func(scene func(w *world), room int) (w *world, others []int) {
			w, from, to, others = swapScene(t, scene, 99)
			return w, slices.Concat(others, to)
		}, func(w *world, room int) error {
			w.b.Arm(room)
			defer w.keep()
			return swap(w)
		})
	}
}
