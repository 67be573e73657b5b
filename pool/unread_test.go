package pool_test

import (
	"fmt"
	"slices"
	"testing"

	"portage/api"
	"portage/bank"
	"portage/pool"
	"portage/roster"
	"portage/super"
)

// slots is which sectors for superblocks are meant: a bit for each, by devices, then by sectors.
type slots int

// has tells whether a sector is meant.
func (x slots) has(device, slot int) bool { return x>>(device*api.Slots+slot)&1 == 1 }

// each are all choices of such sectors, on so many devices.
func each(devices int) []slots {
	var list []slots
	for x := range 1 << (devices * api.Slots) {
		list = append(list, slots(x))
	}
	return list
}

// set lets sectors be bad, or not.
func set(t *testing.T, b *bank.Bank, bad slots, on bool) {
	t.Helper()
	for device := range b.Sizes() {
		for slot := range api.Slots {
			if bad.has(device, slot) {
				must(t, "Bad", b.Bad(device, slot, on))
			}
		}
	}
}

// formatted is a bank on which a pool was formatted over an earlier one, while sectors for superblocks were bad. They still are.
func formatted(t *testing.T, e earlier, bad slots) *world {
	t.Helper()
	b := e.make(t)
	set(t, b, bad, true)
	p, err := pool.Format(b)
	must(t, "Format", err)
	if i := p.Info(); i.Gen != 1 || len(i.Volumes) != 0 || b.Pending() != 0 {
		t.Fatalf("Format: %v, and %d wait", i, b.Pending())
	}
	return &world{T: t, b: b, p: p}
}

// TestP19_1FormatUnread has any of the sectors for superblocks bad while a Format is done, and good again behind it: nothing of an earlier pool comes back.
func TestP19_1FormatUnread(t *testing.T) {
	for _, e := range few() {
		t.Run(e.name, func(t *testing.T) {
			t.Parallel()
			for _, bad := range each(len(e.make(t).Sizes())) {
				w := formatted(t, e, bad)
				set(t, w.b, bad, false)
				w.wantGen(1)
				c := &cuts{t, w.b, anew(w.b)}
				for device := range w.b.Sizes() {
					if list := super.On(w.b, device); len(list) != 1 || !list[0].Same(c.now.Super) {
						t.Fatalf("%b was bad: on the device %d %v count", bad, device, list)
					}
				}
				if bad%2 == 0 {
					w.b.Crash()
				}
				c.want()
				if bad%3 == 0 {
					c.goesOn(int(bad), int(bad)%len(keeps))
				}
			}
		})
	}
}

// TestP19_7FormatUnreadCommits has the new pool make commits while the sectors are bad still, in the last of which the power goes or not: when they are good again there is what was durable, or what that one would have made.
func TestP19_7FormatUnreadCommits(t *testing.T) {
	for at, e := range slices.Concat(plains(2, 5), others()) {
		t.Run(e.name, func(t *testing.T) {
			t.Parallel()
			for i, bad := range each(len(e.make(t).Sizes())) {
				for n := i % 3; n < 12; n += 3 {
					w := formatted(t, e, bad)
					w.age(1 + (i+n)%4)
					w.struck(bad, n, (at+i+n)%len(keeps), w.gen(), fmt.Sprint(w.volumes()))
				}
			}
		})
	}
}

// struck lets the power go in a commit while sectors are bad, and demands, when they are good, the pool that was durable, of this generation and these volumes, or the one behind this commit.
func (w *world) struck(bad slots, n, way, gen int, durable string) {
	w.Helper()
	w.b.Arm(n)
	err := w.p.Create(7, 3)
	behind := ""
	if err == nil {
		behind = fmt.Sprint(w.volumes())
	}
	next := numbers(n)
	crashes(w.b, way, &next)
	set(w.T, w.b, bad, false)
	w.open()
	switch list := w.p.Info().Volumes; {
	case err == nil && w.gen() == gen+1 && fmt.Sprint(w.volumes()) == behind:
	case err != nil && w.gen() == gen && fmt.Sprint(w.volumes()) == durable:
	case err != nil && w.gen() == gen+1 && len(list) > 0 && list[len(list)-1].Id == 7:
		must(w.T, "Delete", w.p.Delete(7))
		if now := fmt.Sprint(w.volumes()); now != durable {
			w.Fatalf("%b was bad: the volumes are %s, not %s", bad, now, durable)
		}
	default:
		w.Fatalf("%b was bad, behind %d with %s kept, %v: the generation %d, and %v", bad, n, keeps[way].name, err, w.gen(), list)
	}
	w.create(8, 9, 1, 2, 3)
	must(w.T, "Flush", w.p.Flush())
	w.crash()
	w.want(8, 0, 1, 2, 3, 0)
}

// isNew tells whether a superblock is the one of a pool that was just formatted, whatever its generation is: below the bound it is.
func isNew(s super.Super, b *bank.Bank) bool {
	fresh := anew(b).Super
	fresh.Gen = s.Gen
	return s.Gen < 1<<60 && s.Same(fresh)
}

// TestP19_7FormatUnreadCut lets the power go in a Format while sectors are bad that are good again behind it. There is the earlier pool or the new one, though the earlier one's newest superblock could not be read.
func TestP19_7FormatUnreadCut(t *testing.T) {
	for at, e := range slices.Concat(plains(3, 5), others()) {
		t.Run(e.name, func(t *testing.T) {
			t.Parallel()
			_, was := sees(t, e.make(t))
			bads := each(len(e.make(t).Sizes()))
			for i, bad := range bads {
				// Of three devices a third of the choices will do.
				isDone := len(bads) > 16 && (at+i)%3 > 0
				for n := 0; !isDone; n++ {
					c := begun(t, e, was)
					set(t, c.b, bad, true)
					isDone = c.formatUnread(bad, n, (at+i+n)%len(keeps))
					c.want()
				}
			}
		})
	}
}

// formatUnread makes a Format in which the power goes behind n writes and flushes while sectors are bad, lets the bank crash and the sectors be good, and tells whether all was done. Behind that the pool is the new one, or, if it was not done, the one that there was.
func (c *cuts) formatUnread(bad slots, n, way int) bool {
	c.Helper()
	c.b.Arm(n)
	p, err := pool.Format(c.b)
	isDone := c.crash(n, way, p, err)
	set(c.T, c.b, bad, false)
	s, holders, err := super.Read(c.b)
	if isDone || !c.counts(c.now) {
		c.now = anew(c.b)
		if !isDone && isNew(s, c.b) {
			c.now.Super.Gen = s.Gen
		}
	}
	if !c.counts(c.now) {
		c.Fatalf("%b was bad, a Format behind %d with %s kept: the superblock is %v, of %v, %v", bad, n, keeps[way].name, s, holders, err)
	}
	return isDone
}

// laid is what the sectors for superblocks of one device have; what is not right are noughts.
type laid [api.Slots]super.Super

// lays is a bank whose devices have superblocks.
func lays(t *testing.T, list []laid) *bank.Bank {
	t.Helper()
	b := bank.New()
	for device, l := range list {
		_, err := b.Add(3)
		must(t, "Add", err)
		for slot, s := range l {
			if sector, err := s.Bytes(); err == nil {
				must(t, "Write", b.Write(device, slot, sector))
			}
		}
		must(t, "Flush", b.Flush(device))
	}
	return b
}

// laids are what a device may have, the same superblocks of one generation as another one, or others.
func laids() []laid {
	active, removed := roster.Entry{State: api.Active, Size: 3}, roster.Entry{State: api.Removed, Size: 3}
	both, second := []roster.Entry{active, active}, []roster.Entry{removed, active}
	with := func(gen, root int, list []roster.Entry) super.Super {
		return super.Super{Gen: gen, Root: root, Roster: roster.Roster{List: list}}
	}
	var all []laid
	for _, even := range []super.Super{{}, with(2, 7, both), with(2, 8, both), with(4, 7, both), with(4, 7, second)} {
		for _, odd := range []super.Super{{}, with(1, 7, both), with(1, 8, both), with(3, 7, both), with(3, 7, second)} {
			all = append(all, laid{even, odd})
		}
	}
	return all
}

// read is what layer 6 reads on a bank.
func read(b *bank.Bank) super.Super {
	s, _, _ := super.Read(b)
	return s
}

// isEither tells whether a superblock is one of these, or as little right as one of them.
func isEither(s super.Super, list ...super.Super) bool {
	return slices.ContainsFunc(list, func(o super.Super) bool { return s.Same(o) || s.Check() != nil && o.Check() != nil })
}

// TestP19_7FormatAny formats two devices that have any superblocks, wherever the power goes, and keeps each of what waited or not.
func TestP19_7FormatAny(t *testing.T) {
	for at, first := range laids() {
		t.Run(fmt.Sprint(at), func(t *testing.T) {
			t.Parallel()
			for _, second := range laids() {
				formatsAny(t, []laid{first, second}, 0)
			}
		})
	}
}

// TestP19_7FormatAnyUnread does so while sectors are bad.
func TestP19_7FormatAnyUnread(t *testing.T) {
	for _, bad := range each(2) {
		t.Run(fmt.Sprintf("%04b", bad), func(t *testing.T) {
			t.Parallel()
			list := laids()
			for at, first := range list {
				for i := range 5 {
					formatsAny(t, []laid{first, list[(at+7*i)%len(list)]}, bad)
				}
			}
		})
	}
}

// formatsAny formats devices, wherever the power goes, while sectors are bad: what can be read at once behind that is what could be ahead of it, or the new pool's (or nothing, where that can't be read anywhere), and so it is when all can be read.
func formatsAny(t *testing.T, list []laid, bad slots) {
	t.Helper()
	for n := 0; ; n++ {
		isDone := true
		for keep := range 1 << len(list) {
			b := lays(t, list)
			whole := read(b)
			set(t, b, bad, true)
			was, fresh := read(b), anew(b).Super
			b.Arm(n)
			_, err := pool.Format(b)
			isDone = err == nil
			b.Crash(keep&1, keep>>1)
			what := fmt.Sprintf("%v, %b is bad, behind %d with %b kept: %%s: %%v", list, bad, n, keep)
			if now := read(b); !isEither(now, was, fresh) && !isNew(now, b) && (now.Check() == nil || !bad.has(0, 1) || !bad.has(1, 1)) {
				t.Fatalf(what, "at once", now)
			}
			set(t, b, bad, false)
			now, holders, _ := super.Read(b)
			if !isEither(now, whole, fresh) && (bad == 0 || !isNew(now, b)) {
				t.Fatalf(what, "then", now)
			}
			if isDone && (!now.Same(fresh) || len(holders) != 2 || len(super.On(b, 0))+len(super.On(b, 1)) != 2) {
				t.Fatalf(what, "done", now)
			}
		}
		if isDone {
			return
		}
	}
}
