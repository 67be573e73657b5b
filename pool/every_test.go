package pool_test

import (
	"cmp"
	"errors"
	"fmt"
	"slices"
	"strings"
	"testing"

	"portage/api"
	"portage/bank"
	"portage/pool"
	"portage/roster"
	"portage/super"
)

// stand is what stands in the sectors for superblocks of devices that have three sectors each, and what the pool there may be, when all can be read or not: what was acknowledged, and what came of calls behind that in which the power went.
type stand struct {
	sectors string
	may     []super.Super
	// cuts is how many Formats were cut. Where the last one left a pool of a great generation, most is the one from which on no call is made any more.
	cuts, most int
}

// key tells stands apart.
func (x stand) key() string { return x.sectors + fmt.Sprint(x.may, x.cuts, x.most) }

// burnt is more than a call, or some of them one behind the other, write and flush.
const burnt = 200

// standing is what stands in the sectors for superblocks, all of which can be read.
func standing(t *testing.T, b *bank.Bank) string {
	t.Helper()
	var all strings.Builder
	for device := range b.Sizes() {
		for slot := range api.Slots {
			data, err := b.Read(device, slot)
			must(t, "Read", err)
			all.Write(data)
		}
	}
	return all.String()
}

// bank is a bank with just these sectors, of which some are bad.
func (x stand) bank(t *testing.T, bad slots) *bank.Bank {
	t.Helper()
	b := bank.New()
	for device := range len(x.sectors) / api.Sector / api.Slots {
		_, err := b.Add(api.Slots + 1)
		must(t, "Add", err)
		for slot := range api.Slots {
			at := (device*api.Slots + slot) * api.Sector
			must(t, "Write", b.Write(device, slot, []byte(x.sectors[at:at+api.Sector])))
		}
		must(t, "Flush", b.Flush(device))
	}
	// It is as far as a bank on which that many were made.
	must(t, "Flush", b.Flush(make([]int, burnt*x.cuts)...))
	set(t, b, bad, true)
	return b
}

// superOf is the superblock of a pool without volumes.
func superOf(p *pool.Pool) super.Super {
	i := p.Info()
	return super.Super{Gen: i.Gen, Roster: i.Roster}
}

// isOne tells whether a superblock is one of these.
func isOne(s super.Super, list []super.Super) bool { return slices.ContainsFunc(list, s.Same) }

// every goes through all that may come of pools without volumes: each opening and each call, while sectors are bad that are good behind that, wherever the power goes in it and whatever is kept.
type every struct {
	*testing.T
	// bads are the choices of bad sectors, and gens is the generation from which on no call is made any more.
	bads []slots
	gens int
	// open are the stands that were not gone on from, of those that were seen.
	open []stand
	seen map[string]struct{}
	// formats is how many Formats may be cut, one behind the other. One more is made, and not gone on from.
	formats int
	// What was met: devices that are Removed, calls behind which counts what could not be read, and Formats that were cut.
	removed, hidden, cut int
}

// meet keeps in mind what came of a stand, unless it was seen.
func (v *every) meet(x stand, b *bank.Bank, may ...super.Super) {
	slices.SortStableFunc(may, func(a, b super.Super) int { return cmp.Compare(a.Gen, b.Gen) })
	x.sectors, x.may = standing(v.T, b), may
	if _, has := v.seen[x.key()]; !has {
		v.seen[x.key()] = struct{}{}
		v.open = append(v.open, x)
	}
}

// all goes on from all stands.
func (v *every) all() {
	for len(v.open) > 0 {
		last := len(v.open) - 1
		x := v.open[last]
		v.open = v.open[:last]
		for _, bad := range v.bads {
			v.from(x, bad)
		}
	}
}

// play is one call on a bank that has a stand, in which the power goes or not.
type play struct {
	*every
	stand
	bad  slots
	name string
	b    *bank.Bank
	p    *pool.Pool
	n    int
	keep int
}

// fail tells what was played.
func (y *play) fail(format string, list ...any) {
	y.Helper()
	y.Fatalf("%s behind %d with %b kept, %b was bad, it may have been %v: %s; there are %v", y.name, y.n, y.keep, y.bad, y.may, fmt.Sprintf(format, list...), everywhere(y.b))
}

// everywhere are all superblocks that count on any device.
func everywhere(b *bank.Bank) []super.Super {
	var list []super.Super
	for device := range b.Sizes() {
		list = append(list, super.On(b, device)...)
	}
	return list
}

// plays makes a call, with the power going behind each number of writes and flushes and each choice of what is kept. What comes of it is asked by cut, or if the power did not go by done, behind which nothing is bad. A call that is refused writes nothing.
func (v *every) plays(x stand, bad slots, name string, ahead, call func(y *play) error, cut, done func(y *play)) {
	for n := 0; ; n++ {
		for keep, most := 0, 1; keep < most; keep++ {
			y := &play{every: v, stand: x, bad: bad, name: name, b: x.bank(v.T, bad), n: n, keep: keep}
			must(v.T, "ahead", ahead(y))
			was := y.b.Done()
			y.b.Arm(n)
			err := call(y)
			y.b.Arm(-1)
			switch {
			case y.b.Down():
				most = 1 << y.b.Pending()
				y.crash()
				set(v.T, y.b, bad, false)
				cut(y)
			case err == nil:
				set(v.T, y.b, bad, false)
				done(y)
				return
			default:
				if y.b.Done() != was {
					y.fail("%v, and something was written", err)
				}
				return
			}
		}
	}
}

// crash keeps each of the sectors that wait whose bit is set.
func (y *play) crash() {
	var picks []int
	for at := range y.b.Pending() {
		picks = append(picks, y.keep>>at&1)
	}
	y.b.Crash(picks...)
}

// newest is what is read. It must be one of these.
func (y *play) newest(may []super.Super) super.Super {
	y.Helper()
	s, _, err := super.Read(y.b)
	if err != nil || !isOne(s, may) {
		y.fail("read is %v, %v, not one of %v", s, err, may)
	}
	return s
}

// wantClean demands that no superblock that counts anywhere has a device as a member that the pool says is Removed.
func (y *play) wantClean(r roster.Roster) {
	y.Helper()
	for device, e := range r.List {
		if e.State != api.Removed {
			continue
		}
		y.removed++
		for _, s := range everywhere(y.b) {
			if slices.Contains(s.Roster.Members(), device) {
				y.fail("the device %d is Removed, and a member", device)
			}
		}
	}
}

// wantUnused demands that no superblock counts on a device that the pool says is Removed.
func (y *play) wantUnused(r roster.Roster) {
	y.Helper()
	for device, e := range r.List {
		if list := super.On(y.b, device); e.State == api.Removed && len(list) > 0 {
			y.fail("the device %d is Removed, and %v count there", device, list)
		}
	}
}

func nothing(*play) error { return nil }

// opens opens the pool.
func opens(y *play) (err error) {
	y.p, err = pool.Open(y.b)
	return err
}

// from opens the pool of a stand while sectors are bad, and makes each call on it.
func (v *every) from(x stand, bad slots) {
	v.formatted(x, bad)
	b := x.bank(v.T, bad)
	s, _, err := super.Read(b)
	if errors.Is(err, api.ErrNone) {
		return
	}
	least := x.may[0].Gen
	isNewest := s.Gen >= least
	opened := x
	v.plays(x, bad, "Open", nothing, opens, func(y *play) {
		y.newest(x.may)
		v.meet(x, y.b, x.may...)
	}, func(y *play) {
		if x.cuts == 0 {
			y.wantClean(y.p.Info().Roster)
		}
		may := x.may
		if top := y.newest(may); top.Same(superOf(y.p)) {
			may = []super.Super{top}
		}
		v.meet(x, y.b, may...)
		opened.sectors, opened.may = standing(v.T, y.b), may
	})
	if !isNewest || x.cuts > 0 && !isOne(s, x.may) {
		// What was acknowledged can't be read on any device: behind a call nothing is promised.
		return
	}
	if !isOne(s, x.may) {
		v.Fatalf("%b is bad: %v is read, which may be %v", bad, s, x.may)
	}
	if s.Gen >= max(v.gens, x.most) || v.gens <= s.Gen && s.Gen < 1<<59 {
		return
	}
	for name, call := range everyCall(len(b.Sizes())) {
		v.called(opened, bad, s, name, call)
	}
}

// everyCall are calls that commit.
func everyCall(devices int) map[string]func(p *pool.Pool) error {
	list := map[string]func(p *pool.Pool) error{
		"Flush":  (*pool.Pool).Flush,
		"Cancel": (*pool.Pool).Cancel,
		"Add":    func(p *pool.Pool) error { return p.Add(len(p.Info().Roster.List)) },
		"Move": func(p *pool.Pool) error {
			_, err := p.Move()
			return err
		},
	}
	for device := range devices {
		list[fmt.Sprintf("Evacuate(%d)", device)] = func(p *pool.Pool) error { return p.Evacuate(device) }
	}
	return list
}

// called makes a call on the pool of a superblock.
func (v *every) called(x stand, bad slots, s super.Super, name string, call func(p *pool.Pool) error) {
	b := x.bank(v.T, bad)
	p, err := pool.Open(b)
	must(v.T, "Open", err)
	if call(p) != nil {
		return
	}
	want := superOf(p)
	may := []super.Super{s, want}
	half := super.Super{Gen: s.Gen, Roster: want.Roster}
	isLast := len(want.Roster.Members()) < len(s.Roster.Members())
	if isLast {
		may = append(may, half)
	}
	v.plays(x, bad, name, opens, func(y *play) error { return call(y.p) }, func(y *play) {
		switch top := y.newest(slices.Concat(may, x.may)); {
		case !isOne(top, may):
			v.hidden++
			y.wantWiped()
			v.meet(x, y.b, x.may...)
		case isLast && top.Same(want):
			v.meet(x, y.b, half, want)
		case isLast:
			v.meet(x, y.b, s, half)
		case top.Same(want):
			v.meet(x, y.b, s, want)
		default:
			v.meet(x, y.b, s)
		}
	}, func(y *play) {
		y.wantClean(want.Roster)
		y.newest([]super.Super{want})
		v.meet(x, y.b, want)
	})
}

// wantWiped demands that nothing was written but noughts.
func (y *play) wantWiped() {
	y.Helper()
	now := standing(y.T, y.b)
	for at := 0; at < len(now); at += api.Sector {
		if data := now[at : at+api.Sector]; data != y.sectors[at:at+api.Sector] && strings.Trim(data, "\x00") != "" {
			y.fail("what could not be read counts, though something was written")
		}
	}
}

// formatted makes a Format, as long as not all of them are cut. It is gone on from where sectors were bad, and no device was Removed: what any other sectors that are bad hide behind that is not the new pool alone.
func (v *every) formatted(x stand, bad slots) {
	if x.cuts > v.formats {
		return
	}
	fresh := anew(x.bank(v.T, 0)).Super
	v.plays(x, bad, "Format", nothing, func(y *play) error {
		_, err := pool.Format(y.b)
		return err
	}, func(y *play) {
		may := append(slices.Clone(x.may), fresh)
		if top := read(y.b); !isOne(top, may) && isNew(top, y.b) {
			may = append(may, top)
		}
		y.wantUnused(y.newest(may).Roster)
		v.cut++
		isLeft := slices.ContainsFunc(x.may, func(s super.Super) bool { return len(s.Roster.Members()) < len(s.Roster.List) })
		if x.cuts == v.formats || bad == 0 || isLeft {
			return
		}
		next := x
		next.cuts++
		if top := may[len(may)-1]; top.Gen > 1<<59 {
			next.most = top.Gen + 1
		}
		v.meet(next, y.b, may...)
	}, func(y *play) {
		if list := everywhere(y.b); len(list) != len(y.b.Sizes()) || slices.ContainsFunc(list, func(s super.Super) bool { return !s.Same(fresh) }) {
			y.fail("the pool is not the new one alone")
		}
	})
}

// some are choices of such sectors: none, one, those of a device, and those of a slot.
func some(devices int) []slots {
	list := []slots{0}
	rows := make([]slots, api.Slots)
	for device := range devices {
		var both slots
		for slot := range api.Slots {
			one := slots(1) << (device*api.Slots + slot)
			list = append(list, one)
			both |= one
			rows[slot] |= one
		}
		list = append(list, both)
	}
	return append(list, rows...)
}

// goes goes on from a pool in all ways, till a generation.
func goes(w *world, bads []slots, gens, formats int) *every {
	w.Helper()
	v := &every{T: w.T, bads: bads, gens: gens, formats: formats, seen: map[string]struct{}{}}
	v.meet(stand{}, w.b, superOf(w.p))
	v.all()
	return v
}

// TestP19_7Every goes through all that may come of two devices, of which one may be no member at first.
func TestP19_7Every(t *testing.T) {
	for first := 1; first <= 2; first++ {
		t.Run(fmt.Sprint(first), func(t *testing.T) {
			t.Parallel()
			w := made(t, slices.Repeat([]int{3}, first)...)
			for range 2 - first {
				_, err := w.b.Add(3)
				must(t, "Add", err)
			}
			if v := goes(w, each(2), 4, 0); v.removed < 100 || v.hidden < 100 || v.cut < 100 {
				t.Fatalf("of %d stands %d had a device that was Removed; behind %d calls counts what could not be read; %d Formats were cut", len(v.seen), v.removed, v.hidden, v.cut)
			}
		})
	}
}

// TestP19_7EveryFormat does so for one generation and the next, behind Formats, too, that were cut while sectors were bad.
func TestP19_7EveryFormat(t *testing.T) {
	for first := 1; first <= 2; first++ {
		for gen := 1; gen <= 2; gen++ {
			t.Run(fmt.Sprint(first, gen), func(t *testing.T) {
				t.Parallel()
				w := made(t, slices.Repeat([]int{3}, first)...)
				for w.gen() < gen {
					must(t, "Flush", w.p.Flush())
				}
				for range 2 - first {
					_, err := w.b.Add(3)
					must(t, "Add", err)
				}
				if v := goes(w, []slots{0, 0b0001, 0b0101, 0b1010, 0b1111}, gen+1, 1); v.hidden < 100 || v.cut < 1000 {
					t.Fatalf("of %d stands %d calls left what could not be read; %d Formats were cut", len(v.seen), v.hidden, v.cut)
				}
			})
		}
	}
}

// TestP19_8Every goes through all that may come of three devices of which one is left, or is left behind another one.
func TestP19_8Every(t *testing.T) {
	for device := range 3 {
		for other := range 3 {
			t.Run(fmt.Sprint(device, other), func(t *testing.T) {
				t.Parallel()
				w := made(t, 3, 3, 3)
				if other != device {
					w.left(other)
				}
				must(t, "Evacuate", w.p.Evacuate(device))
				if v := goes(w, some(3), w.gen()+1, -1); v.removed < 100 || v.hidden < 10 {
					t.Fatalf("of %d stands %d had a device that was Removed; behind %d calls counts what could not be read", len(v.seen), v.removed, v.hidden)
				}
			})
		}
	}
}
