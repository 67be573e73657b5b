package pool_test

import (
	"errors"
	"fmt"
	"maps"
	"slices"
	"testing"

	"portage/api"
	"portage/audit"
	"portage/bank"
	"portage/pool"
)

// small is a life on devices of 24 sectors each, that has two volumes which share something, and a third one.
func small(t *testing.T, devices int) *life {
	t.Helper()
	l := lives(t, slices.Repeat([]int{24}, devices)...)
	l.run(creates(1, 9), writes(1, 0, 1, 2, 3), snapshots(2, 1), writes(1, 1, 4), creates(3, 5), writes(3, 0, 5), flushes())
	return l
}

// leaves leaves devices, one behind the other, with so many commits behind each.
func (l *life) leaves(commits int, devices ...int) *life {
	l.Helper()
	for _, device := range devices {
		l.left(device)
		l.note(l.now)
		for range commits {
			l.run(writes(1, l.gen%9, 100+l.gen), flushes())
		}
	}
	return l
}

// gone are the devices that are Removed.
func (l *life) gone() []int {
	var list []int
	for device, e := range l.p.Info().Roster.List {
		if e.State == api.Removed {
			list = append(list, device)
		}
	}
	return list
}

// copied is another bank whose devices have the same sectors, all of which can be read.
func copied(t *testing.T, b *bank.Bank) *bank.Bank {
	t.Helper()
	c := bank.New()
	for device, size := range b.Sizes() {
		_, err := c.Add(max(size, 1))
		must(t, "Add", err)
		for sector := range size {
			data, err := b.Read(device, sector)
			must(t, "Read", err)
			must(t, "Write", c.Write(device, sector, data))
		}
		must(t, "Flush", c.Flush(device))
		if size == 0 {
			must(t, "Detach", c.Detach(device))
		}
	}
	return c
}

// asked is what Audit and Open tell of a bank, with all that the volumes have.
func asked(t *testing.T, b *bank.Bank) string {
	t.Helper()
	r, err := audit.Audit(b)
	list := fmt.Sprint("Audit ", r, err)
	p, err := pool.Open(b)
	list += fmt.Sprint(", Open ", err)
	if err == nil {
		w := &world{T: t, b: b, p: p}
		list += fmt.Sprint(p.Info(), w.volumes())
	}
	b.Crash()
	return list
}

// twins has a bank and others that are alike, but that something happened to the devices which were left. All tell the same, whichever superblocks of the members can't be read, and the pool that there was when all can be again.
func (l *life) twins(what string) {
	l.Helper()
	gone := l.gone()
	if len(gone) == 0 {
		l.Fatalf("%s: no device is Removed", what)
	}
	l.same()
	durable := l.durable
	l.b.Crash()
	was := asked(l.T, copied(l.T, l.b))
	list := harms(l.T)
	names := slices.Sorted(maps.Keys(list))
	for i, bad := range each(len(l.b.Sizes())) {
		if slices.ContainsFunc(gone, func(device int) bool { return bad.has(device, 0) || bad.has(device, 1) }) {
			continue
		}
		one := copied(l.T, l.b)
		set(l.T, one, bad, true)
		unread := asked(l.T, one)
		set(l.T, one, bad, false)
		if read := asked(l.T, one); read != was {
			l.Fatalf("%s, %b was bad: %s, and not %s", what, bad, read, was)
		}
		for _, name := range []string{"detached", names[i%len(names)]} {
			two := copied(l.T, l.b)
			for _, device := range gone {
				list[name](two, device)
			}
			set(l.T, two, bad, true)
			if got := asked(l.T, two); got != unread {
				l.Fatalf("%s, %s, %b is bad: %s, and without that %s", what, name, bad, got, unread)
			}
			set(l.T, two, bad, false)
			if got := asked(l.T, two); got != was {
				l.Fatalf("%s, %s, %b was bad: %s, and not %s", what, name, bad, got, was)
			}
		}
	}
	l.open()
	l.recover(durable)
}

// TestP19_8Example is a device that was left, and the other one, whose superblocks can't be read for a while.
func TestP19_8Example(t *testing.T) {
	w := made(t, 50, 50)
	w.left(0)
	w.create(1, 10)
	w.wantGen(4)
	bad := slots(0b1100)
	for range 3 {
		set(t, w.b, bad, true)
		w.b.Crash()
		done := w.b.Done()
		wantNoPool(t, "Open", w.b, pool.Open, api.ErrNone)
		if _, err := audit.Audit(w.b); err != api.ErrNone || w.b.Done() != done {
			t.Fatalf("Audit: %v, and %d writes", err, w.b.Done()-done)
		}
		set(t, w.b, bad, false)
		w.crash()
		w.wantGen(4)
		w.want(1, 0, 0)
	}
}

// TestP19_8Twins leaves each device of two or three, with some commits behind that.
func TestP19_8Twins(t *testing.T) {
	for devices := 2; devices <= 3; devices++ {
		for device := range devices {
			for commits := range 4 {
				t.Run(fmt.Sprint(devices, device, commits), func(t *testing.T) {
					t.Parallel()
					small(t, devices).leaves(commits, device).twins("left")
				})
			}
		}
	}
}

// TestP19_8TwinsMany leaves more than one device, one behind the other.
func TestP19_8TwinsMany(t *testing.T) {
	for _, list := range [][]int{{0, 1}, {0, 2}, {1, 0}, {1, 2}, {2, 0}, {2, 1}, {0, 1, 2}, {2, 0, 3}, {3, 1, 0}} {
		for commits := range 3 {
			t.Run(fmt.Sprint(list, commits), func(t *testing.T) {
				t.Parallel()
				small(t, len(list)+1).leaves(commits, list...).twins("left")
			})
		}
	}
}

// TestP19_8TwinsCommits has each kind of commit behind the last step.
func TestP19_8TwinsCommits(t *testing.T) {
	for device := range 3 {
		other := (device + 1) % 3
		for name, list := range map[string][]call{
			"Create":   {creates(7, 9)},
			"Snapshot": {snapshots(7, 1)},
			"Delete":   {deletes(2)},
			"Resize":   {resizes(1, 2)},
			"Flush":    {writes(1, 5, 8), discards(2, 0, 2), flushes()},
			"Add":      {adds(3)},
			"Grow":     {grows(other)},
			"Evacuate": {evacuates(other)},
			"Move":     slices.Concat([]call{evacuates(other)}, slices.Repeat([]call{moves()}, 5)),
			"Cancel":   {evacuates(other), moves(), cancels()},
			"All":      {creates(7, 9), writes(7, 1, 8), snapshots(8, 7), adds(3), deletes(2), grows(other), evacuates(other), cancels()},
		} {
			t.Run(fmt.Sprint(name, device), func(t *testing.T) {
				t.Parallel()
				l := small(t, 3).leaves(0, device)
				if list[0].name == adds(3).name || name == "All" {
					_, err := l.b.Add(30)
					must(t, "Add", err)
				}
				must(t, "Grow", l.b.Grow(other, 3))
				for _, c := range list {
					l.run(c)
				}
				l.twins(name)
				l.run(flushes())
				l.twins(name + ", Flush")
			})
		}
	}
}

// TestP19_8TwinsUnread has superblocks that can't be read while the device is left, on it or elsewhere.
func TestP19_8TwinsUnread(t *testing.T) {
	for at, bad := range each(3) {
		t.Run(fmt.Sprintf("%06b", bad), func(t *testing.T) {
			t.Parallel()
			l := small(t, 3)
			set(t, l.b, bad, true)
			l.leaves(at%3, at%2)
			set(t, l.b, bad, false)
			l.twins("left")
		})
	}
}

// lastStep is a life, ahead of the step by which a device is Removed.
func lastStep(t *testing.T, devices, device int) *life {
	t.Helper()
	last := 0
	for l := small(t, devices); ; last++ {
		if last == 0 {
			l.run(evacuates(device))
		}
		if l.run(moves()); l.p.Info().Leaving < 0 {
			break
		}
	}
	l := small(t, devices)
	l.run(evacuates(device))
	for range last {
		l.run(moves())
	}
	return l
}

// ends leaves the device, if it is left still, and demands twins.
func (l *life) ends(what string, device, commits int) {
	l.Helper()
	if l.p.Info().Leaving == device {
		l.leave(func(int) {})
		l.note(l.now)
	}
	for range commits {
		l.run(writes(1, l.gen%9, 100+l.gen), flushes())
	}
	l.twins(what)
}

// TestP19_8TwinsCut lets the power go at each write and flush of the last step, and of the openings behind that.
func TestP19_8TwinsCut(t *testing.T) {
	for devices := 2; devices <= 3; devices++ {
		for device := range devices {
			for way := range keeps {
				t.Run(fmt.Sprint(devices, device, way), func(t *testing.T) {
					t.Parallel()
					said := 0
					for n := range enough {
						l := lastStep(t, devices, device)
						next := numbers(n)
						if !l.strike(moves(), n, way, &next) {
							break
						}
						if l.p.Info().Leaving < 0 {
							said++
						}
						l.ends(fmt.Sprintf("cut behind %d with %s kept", n, keeps[way].name), device, (n+way)%3)
					}
					if said == 0 {
						t.Fatal("the device is never Removed behind a crash")
					}
				})
			}
		}
	}
}

// TestP19_8TwinsCutUnread has superblocks that can't be read in the opening behind that, in which the power may go, too, and can be read behind it.
func TestP19_8TwinsCutUnread(t *testing.T) {
	for i, bad := range some(3) {
		t.Run(fmt.Sprintf("%06b", bad), func(t *testing.T) {
			t.Parallel()
			device := i % 3
			for n := range enough {
				l := lastStep(t, 3, device)
				gen := l.gen
				l.b.Arm(n)
				if err := moves().do(l.p); err == nil {
					break
				}
				next := numbers(n)
				crashes(l.b, (i+n)%len(keeps), &next)
				set(t, l.b, bad, true)
				if read(l.b).Gen < gen {
					// What was durable can't be read on any device.
					set(t, l.b, bad, false)
				}
				l.await(l.now)
				for m := n % 4; ; m++ {
					l.b.Arm(m)
					p, err := pool.Open(l.b)
					if l.b.Arm(-1); err == nil {
						l.p = p
						break
					}
					if !errors.Is(err, api.ErrDown) {
						t.Fatalf("Open: %v", err)
					}
					crashes(l.b, (i+m)%len(keeps), &next)
				}
				set(t, l.b, bad, false)
				l.recover(l.now)
				l.ends(fmt.Sprintf("cut behind %d", n), device, (n+i)%3)
			}
		})
	}
}

// TestP19_8TwinsFormat has a Format behind the last step that is not done: where the earlier pool is there still, nothing of the new one stays behind its next commit.
func TestP19_8TwinsFormat(t *testing.T) {
	for device := range 3 {
		for commits := range 3 {
			for way := range keeps {
				t.Run(fmt.Sprint(device, commits, way), func(t *testing.T) {
					t.Parallel()
					for n := range enough {
						l := small(t, 3).leaves(commits, device)
						gen := l.gen
						l.b.Arm(n)
						if _, err := pool.Format(l.b); err == nil {
							break
						}
						next := numbers(n)
						crashes(l.b, way, &next)
						if l.open(); l.p.Info().Gen != gen {
							break
						}
						l.run(flushes())
						l.twins(fmt.Sprintf("a Format behind %d", n))
					}
				})
			}
		}
	}
}
