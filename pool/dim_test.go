package pool_test

import (
	"fmt"
	"reflect"
	"strings"
	"testing"

	"portage/api"
	"portage/fault"
	"portage/pool"
	"portage/super"
	"portage/thin"
)

// dim is a pool that was opened while sectors for superblocks were bad, beside one that was opened on devices that are alike, but have nothing in these sectors. They still are bad.
type dim struct {
	*world
	other *world
	bad   slots
	// spoilt are sectors elsewhere that are bad, on both banks.
	spoilt [][2]int
	// hidden is the superblock that would have been read if all could have been, with the volumes that it tells.
	hidden  super.Super
	volumes map[thin.Info]string
	// was is what all sectors had at the opening, wrote says that something was written since.
	was   [][]string
	wrote bool
	name  string
}

// dims opens the pool of a life that crashed while sectors are bad, nil if none can be.
func (l *life) dims(bad slots) *dim {
	l.Helper()
	bare := copied(l.T, l.b)
	_, x := sees(l.T, copied(l.T, l.b))
	set(l.T, l.b, bad, true)
	p, err := pool.Open(l.b)
	if err != nil {
		return nil
	}
	for at := range len(l.b.Sizes()) * api.Slots {
		if device, slot := at/api.Slots, at%api.Slots; bad.has(device, slot) {
			must(l.T, "Write", bare.Write(device, slot, make([]byte, api.Sector)))
			must(l.T, "Flush", bare.Flush(device))
		}
	}
	q, err := pool.Open(bare)
	must(l.T, "Open", err)
	d := &dim{world: &world{T: l.T, b: l.b, p: p}, other: &world{T: l.T, b: bare, p: q}, bad: bad}
	d.was = all(l.T, l.b, bad)
	set(l.T, l.b, bad, false)
	// An Open writes one superblock once more, where an older one or one that was cut may have stood.
	d.hidden = read(l.b)
	if !d.hidden.Same(x.Super) {
		_, x = sees(l.T, copied(l.T, l.b))
	}
	d.volumes = x.Volumes
	set(l.T, l.b, bad, true)
	d.same()
	return d
}

// same demands that both pools tell the same.
func (d *dim) same() {
	d.Helper()
	got, want := d.tells(), d.other.tells()
	if !reflect.DeepEqual(got, want) {
		d.Fatalf("%s: %+v, not %+v", d.name, got, want)
	}
}

// does makes a call on both pools, which answer alike. As long as nothing was written all stays as it was; a call that is refused writes nothing, and behind the first one that does nothing is hidden any more.
func (d *dim) does(c call) error {
	d.Helper()
	d.name += ", " + c.name
	done := d.b.Done()
	err := c.do(d.p)
	if want := c.do(d.other.p); !reflect.DeepEqual(err, want) {
		d.Fatalf("%s: %v, not %v", d.name, err, want)
	}
	d.same()
	if d.wrote {
		return err
	}
	d.wrote = d.b.Done() != done
	if d.wrote && err != nil {
		d.Fatalf("%s is refused, %v, and something was written", d.name, err)
	}
	d.dark(false)
	now, counts := all(d.T, d.b, 0), read(d.b)
	d.dark(true)
	switch i := d.p.Info(); {
	case !d.wrote && (!reflect.DeepEqual(now, d.was) || d.b.Pending() > 0):
		d.Fatalf("%s: a sector is not as it was", d.name)
	case !d.wrote && !counts.Same(d.hidden):
		d.Fatalf("%s: %v counts, and not %v", d.name, counts, d.hidden)
	case d.wrote && (counts.Gen != i.Gen || !counts.Roster.Same(i.Roster)):
		d.Fatalf("%s: %v counts, of %+v", d.name, counts, i)
	}
	return err
}

// ends lets all be read, and opens the pool behind a crash: it is the one that was hidden, as if it had not been opened meanwhile, if nothing was written; else the other one, behind the same.
func (d *dim) ends(way int) {
	d.Helper()
	d.dark(false)
	if !d.wrote {
		next := numbers(way)
		crashes(d.b, way, &next)
		_, x := sees(d.T, d.b)
		if !x.Super.Same(d.hidden) || !reflect.DeepEqual(x.Volumes, d.volumes) {
			d.Fatalf("%s: the pool is %v, and not %v, %v", d.name, x, d.hidden, d.volumes)
		}
		return
	}
	keepAll(d.b)
	keepAll(d.other.b)
	_, got := sees(d.T, d.b)
	_, want := sees(d.T, d.other.b)
	if got.Super.Gen != want.Super.Gen || !got.Super.Roster.Same(want.Super.Roster) || !reflect.DeepEqual(got.Volumes, want.Volumes) {
		d.Fatalf("%s: the pool is %v, and not %v", d.name, got, want)
	}
}

// grows lets a device of both banks be greater, or be one more, and tells the call by which the pool has that.
func (d *dim) grows(device, sectors int) call {
	d.Helper()
	for _, w := range []*world{d.world, d.other} {
		if device < len(w.b.Sizes()) {
			must(d.T, "Grow", w.b.Grow(device, sectors))
			continue
		}
		_, err := w.b.Add(sectors)
		must(d.T, "Add", err)
	}
	if !d.wrote {
		d.dark(false)
		d.was = all(d.T, d.b, 0)
		d.dark(true)
	}
	if device < len(d.p.Info().Roster.List) {
		return grows(device)
	}
	return adds(device)
}

// dark lets all that can't be read be bad, or good.
func (d *dim) dark(on bool) {
	d.Helper()
	set(d.T, d.b, d.bad, on)
	for _, at := range d.spoilt {
		must(d.T, "Bad", d.b.Bad(at[0], at[1], on))
		must(d.T, "Bad", d.other.b.Bad(at[0], at[1], on))
	}
}

// spoils lets other sectors in the room of the pool be bad than till now.
func (d *dim) spoils(next *numbers) {
	d.Helper()
	d.dark(false)
	d.spoilt = nil
	for device, size := range d.b.Sizes() {
		for sector := api.Slots; sector < size; sector++ {
			if next.below(3) == 0 {
				d.spoilt = append(d.spoilt, [2]int{device, sector})
			}
		}
	}
	d.dark(true)
}

// word is the name of a call.
func word(c call) string {
	name, _, _ := strings.Cut(c.name, "(")
	return name
}

// isFull tells whether an error says that there is no room.
func isFull(err error) bool { return fault.IsAny(err, api.ErrFull, api.ErrSpace) }

// crowded is a life on small devices, in which calls were made till there was hardly any room, with what it has committed. A device may be left.
func crowded(t *testing.T, seed int) *life {
	t.Helper()
	next := numbers(seed)
	var sizes []int
	for range 1 + seed%3 {
		sizes = append(sizes, 16/(1+seed%3)+next.below(8))
	}
	l := lives(t, sizes...)
	for id := range 3 {
		l.mayRun(creates(id+1, 42))
	}
	for range 20 + next.below(20) {
		l.mayRun(l.tight(&next))
	}
	least := next.below(5)
	for range 60 {
		if l.p.Info().Free > least {
			l.mayRun(writes(1+next.below(3), next.below(42), next.below(999)))
		}
		if next.below(3) == 0 {
			l.mayRun(flushes())
		}
	}
	if i := l.p.Info(); seed%2 == 0 && i.Leaving < 0 && len(i.Roster.Actives()) > 1 {
		l.mayRun(evacuates(i.Roster.Actives()[0]))
		for range seed % 7 {
			if l.p.Info().Leaving >= 0 {
				l.mayRun(moves())
			}
		}
	}
	return l
}

// hides makes a commit, which may be cut, lets the bank crash and opens the pool while sectors are bad, first of all those of this commit.
func (l *life) hides(next *numbers) *dim {
	l.Helper()
	c := []call{flushes(), creates(7, 9), deletes(2), snapshots(7, 1), resizes(1, 20)}[next.below(5)]
	if next.below(2) == 0 {
		l.b.Arm(next.below(12))
	}
	gen := l.p.Info().Gen
	c.do(l.p)
	keepAll(l.b)
	bad := rows(len(l.b.Sizes()), gen+1)
	if list := each(len(l.b.Sizes())); next.below(3) == 0 {
		bad = list[next.below(len(list))]
	}
	if d := l.dims(bad); d != nil {
		d.name = fmt.Sprintf("%s, %b is bad", c.name, bad)
		return d
	}
	return nil
}

// count is how many calls of a kind were refused for want of room while something was hidden, or were done and wrote nothing; how many steps or Discards that were came ahead of those that were refused; and how many were done behind one that was refused.
type count struct{ refused, kept, behindMove, behindDiscard, then int }

// plays makes many calls on a pool, and counts them by their names.
func (l *life) plays(d *dim, next *numbers, counts map[string]count) {
	l.Helper()
	wasRefused, wasKept := map[string]int{}, map[string]int{}
	for turn := range 40 {
		c := l.calls(d, turn, next)
		isHidden := !d.wrote
		err := d.does(c)
		x := counts[word(c)]
		switch {
		case isHidden && isFull(err):
			x.refused++
			x.behindMove += wasKept["Move"]
			x.behindDiscard += wasKept["Discard"]
			wasRefused[word(c)] = 1
		case isHidden && err == nil && !d.wrote:
			x.kept++
			wasKept[word(c)] = 1
		case err == nil:
			x.then += wasRefused[word(c)]
		}
		counts[word(c)] = x
	}
}

// TestP19_7Dim has superblocks hidden from an opening on devices that are nearly full, of commits that were done or cut, while devices are left, and makes calls of all kinds, one behind the other, till one of them writes and further: refused for want of room, behind steps that wrote nothing and Discards, with sectors bad elsewhere, with devices that come and grow. Each is answered as by a pool on devices that have nothing there.
func TestP19_7Dim(t *testing.T) {
	var list [24]map[string]count
	t.Run("all", func(t *testing.T) {
		for at := range list {
			list[at] = map[string]count{}
			t.Run(fmt.Sprint(at), func(t *testing.T) {
				t.Parallel()
				next := numbers(1000 + at)
				for round := range 60 {
					l := crowded(t, 60*at+round)
					if d := l.hides(&next); d != nil && d.hidden.Gen > d.gen() {
						l.plays(d, &next, list[at])
						d.ends(next.below(len(keeps)))
					}
				}
			})
		}
	})
	moves := 0
	for _, name := range []string{"Create", "Snapshot", "Delete", "Resize", "Write", "Discard", "Flush", "Move"} {
		var x count
		for _, counts := range list {
			y := counts[name]
			x = count{y.refused + x.refused, y.kept + x.kept, y.behindMove + x.behindMove, y.behindDiscard + x.behindDiscard, y.then + x.then}
		}
		moves += x.behindMove
		isStill := name == "Move" || name == "Discard"
		if x.refused == 0 || x.behindDiscard == 0 || x.then == 0 && name != "Flush" || isStill != (x.kept > 0) {
			t.Errorf("%s: %+v", name, x)
		}
	}
	if moves < 10 {
		t.Errorf("%d calls were refused behind steps that wrote nothing", moves)
	}
}

// calls is one call on a pool from which something is hidden.
func (l *life) calls(d *dim, turn int, next *numbers) call {
	l.Helper()
	l.p = d.p
	i := d.p.Info()
	switch kind := next.below(24); {
	case turn%9 == 4:
		d.spoils(next)
		return moves()
	case turn > 18 && kind == 0 && len(d.b.Sizes()) == len(i.Roster.List):
		return d.grows(len(d.b.Sizes()), 3+next.below(20))
	case turn > 18 && kind < 3:
		return d.grows(i.Roster.Actives()[0], 1+next.below(9))
	case kind < 5 && i.Leaving >= 0:
		return moves()
	case kind < 9:
		list := refusals()
		return list[next.below(len(list))]
	case kind < 11:
		return discards(1+next.below(3), 0, 42)
	case kind < 13:
		return discards(1+next.below(3), next.below(30), 1+next.below(12))
	case kind < 17:
		return []call{creates(8, 5), snapshots(8, 1), deletes(2), deletes(3), resizes(1, 2), flushes()}[next.below(6)]
	case kind < 19:
		return writes(1+next.below(3), next.below(30), span(next.below(999), api.MaxRun)...)
	}
	return l.tight(next)
}
