package pool_test

import (
	"errors"
	"fmt"
	"reflect"
	"slices"
	"testing"

	"portage/api"
	"portage/bank"
	"portage/fault"
	"portage/pool"
	"portage/roster"
	"portage/super"
	"portage/thin"
)

func TestP19_1Format(t *testing.T) {
	for _, sizes := range [][]int{{3}, {4096}, {50, 50}, {3, 4, 5, 6, 7, 8, 9, 10}} {
		w := made(t, sizes...)
		var want roster.Roster
		room := 0
		for _, size := range sizes {
			want.List = append(want.List, roster.Entry{State: api.Active, Size: size})
			room += size - api.Slots
		}
		i := w.p.Info()
		if i.Gen != 1 || !i.Roster.Same(want) || len(i.Volumes) != 0 || i.Room != room || i.Free != room || i.Leaving != -1 || i.Data+i.Pages+i.Copies != 0 {
			t.Fatalf("Format: %v", i)
		}
		// One write and one flush of each device, and no more.
		if w.b.Done() != 2*len(sizes) || w.b.Pending() != 0 {
			t.Fatalf("Format: %d writes and flushes, %d wait", w.b.Done(), w.b.Pending())
		}
		w.wantGen(1)
		before := w.tells()
		w.crash()
		wantSame(t, "Open", w.tells(), before)
	}
}

func TestP19_1FormatWrong(t *testing.T) {
	wantNoPool(t, "no devices", bank.New(), pool.Format, api.ErrRange)
	for _, sizes := range [][]int{{1}, {2}, {50, 2}, {1, 50}, {50, 50, 1, 50}} {
		wantNoPool(t, fmt.Sprint(sizes), banked(t, sizes...), pool.Format, api.ErrRange)
	}
	for device := range 3 {
		b := banked(t, 50, 50, 50)
		must(t, "Detach", b.Detach(device))
		wantNoPool(t, "detached", b, pool.Format, api.ErrRange)
	}
	// The power comes first.
	for _, sizes := range [][]int{{50}, {50, 2}} {
		b := banked(t, sizes...)
		b.Arm(0)
		wantError(t, "Write", b.Write(0, 1, of(1)), fault.Wrap("write", 0, 1, api.ErrDown))
		wantNoPool(t, "down", b, pool.Format, api.ErrDown)
		wantNoPool(t, "down", b, pool.Open, api.ErrDown)
		b.Crash()
	}
}

// TestP19_1FormatPower lets the power go at each write of a Format of devices on which no pool was formatted yet: behind a crash there is none, or the new one.
func TestP19_1FormatPower(t *testing.T) {
	want := []error{fault.Wrap("write", 0, 1, api.ErrDown), fault.Wrap("write", 1, 1, api.ErrDown), fault.Wrap("flush", 0, 0, api.ErrDown), fault.Wrap("flush", 1, 0, api.ErrDown)}
	for n, want := range want {
		for _, picks := range [][]int{nil, {1}, {0, 1}, {1, 1}} {
			b := banked(t, 50, 50)
			b.Arm(n)
			p, err := pool.Format(b)
			wantError(t, "Format", err, want)
			if p != nil {
				t.Fatal("a pool beside an error")
			}
			b.Crash(picks...)
			o, err := pool.Open(b)
			if errors.Is(err, api.ErrNone) {
				continue
			}
			must(t, "Open", err)
			w := &world{T: t, b: b, p: o}
			w.wantGen(1)
			if o.Info().Room != 96 {
				t.Fatalf("Open: %v", o.Info())
			}
		}
	}
}

// earlier is a bank on which a pool stands, made the same way each time.
type earlier struct {
	name string
	make func(t *testing.T) *bank.Bank
}

// aged is a pool of a generation, on so many devices.
func aged(t *testing.T, devices, gen int) *world {
	t.Helper()
	w := made(t, slices.Repeat([]int{50}, devices)...)
	w.age(gen)
	return w
}

// age lets a pool make commits till it has a generation: a volume comes, its blocks come, each once more.
func (w *world) age(gen int) {
	w.Helper()
	for g := w.gen() + 1; g <= gen; g++ {
		list := w.p.Info().Volumes
		if len(list) == 0 {
			must(w.T, "Create", w.p.Create(1, 24))
			continue
		}
		for at := 0; list[0].Mapped == 0 && at < 24; at += api.MaxRun {
			w.write(1, at, span(at+1, api.MaxRun)...)
		}
		w.write(1, g%24, 100+g)
		must(w.T, "Flush", w.p.Flush())
	}
}

// plains are pools on devices of their own alone.
func plains(most, gens int) []earlier {
	var list []earlier
	for devices := 1; devices <= most; devices++ {
		for gen := 1; gen <= gens; gen++ {
			list = append(list, earlier{fmt.Sprintf("%d devices, the generation %d", devices, gen), func(t *testing.T) *bank.Bank { return aged(t, devices, gen).b }})
		}
	}
	return list
}

// others are pools of which not all devices are members, or not wholly.
func others() []earlier {
	var list []earlier
	for gen := 1; gen <= 4; gen++ {
		list = append(list,
			earlier{fmt.Sprintf("with devices more, the generation %d", gen), func(t *testing.T) *bank.Bank {
				w := aged(t, 1, gen)
				for range 2 {
					_, err := w.b.Add(30)
					must(t, "Add", err)
				}
				return w.b
			}},
			earlier{fmt.Sprintf("with greater devices, the generation %d", gen), func(t *testing.T) *bank.Bank {
				w := aged(t, 2, gen)
				must(t, "Grow", w.b.Grow(0, 5))
				must(t, "Grow", w.b.Grow(1, 7))
				return w.b
			}},
			earlier{fmt.Sprintf("with a device that came, the generation %d", gen+1), func(t *testing.T) *bank.Bank {
				w := aged(t, 2, gen)
				_, err := w.b.Add(40)
				must(t, "Add", err)
				must(t, "Add", w.p.Add(2))
				return w.b
			}},
			earlier{fmt.Sprintf("formatted over the generation %d", gen+2), func(t *testing.T) *bank.Bank {
				w := aged(t, 2, gen+2)
				p, err := pool.Format(w.b)
				must(t, "Format", err)
				w.p = p
				w.age(gen)
				return w.b
			}})
	}
	for device := range 3 {
		for more := range 3 {
			list = append(list,
				earlier{fmt.Sprintf("leaving %d behind %d steps", device, 3*more), func(t *testing.T) *bank.Bank {
					w := aged(t, 3, 5)
					must(t, "Evacuate", w.p.Evacuate(device))
					for range 3 * more {
						_, err := w.p.Move()
						must(t, "Move", err)
					}
					return w.b
				}},
				earlier{fmt.Sprintf("%d commits behind leaving %d", more, device), func(t *testing.T) *bank.Bank {
					w := aged(t, 3, 5)
					w.left(device)
					w.age(w.gen() + more)
					return w.b
				}})
		}
	}
	return list
}

// halves are pools in whose last commit the power went, opened behind that or not.
func halves() []earlier {
	var list []earlier
	for gen := 1; gen <= 4; gen++ {
		for n := 3; n < 9; n++ {
			for way := range 4 {
				for _, isOpened := range []bool{false, true} {
					name := fmt.Sprintf("the generation %d, and one cut behind %d with %s kept, opened: %t", gen, n, keeps[way].name, isOpened)
					list = append(list, earlier{name, func(t *testing.T) *bank.Bank {
						w := aged(t, 2, gen)
						if gen > 1 {
							w.write(1, 0, 99)
						}
						next := numbers(way)
						w.b.Arm(n)
						w.p.Create(2, 9)
						crashes(w.b, way, &next)
						if isOpened {
							w.open()
						}
						return w.b
					}})
				}
			}
		}
	}
	return list
}

// seen is what stands on a bank as a pool: its superblock, and the volumes, with the digest of all that each has.
type seen struct {
	Super   super.Super
	Volumes map[thin.Info]string
}

// anew is what is to be seen of a pool that was just formatted.
func anew(b *bank.Bank) seen {
	x := seen{super.Super{Gen: 1}, map[thin.Info]string{}}
	for _, size := range b.Sizes() {
		x.Super.Roster.List = append(x.Super.Roster.List, roster.Entry{State: api.Active, Size: size})
	}
	return x
}

// sees opens the pool on a bank, and tells what is seen of it.
func sees(t *testing.T, b *bank.Bank) (*world, seen) {
	t.Helper()
	s, _, err := super.Read(b)
	must(t, "Read", err)
	w := &world{T: t, b: b}
	w.open()
	w.wantGen(s.Gen)
	w.wantOwn()
	return w, seen{s, w.volumes()}
}

// cuts is a bank on which a pool stands, whatever is cut there, and what must be seen of it.
type cuts struct {
	*testing.T
	b   *bank.Bank
	now seen
}

// begun is an earlier pool, of which was must be seen.
func begun(t *testing.T, e earlier, was seen) *cuts {
	t.Helper()
	return &cuts{t, e.make(t), was}
}

// format makes a Format in which the power goes behind n writes and flushes, lets the bank crash, and tells whether all was done. Behind that the pool is the new one, or, if it was not done, the one that there was.
func (c *cuts) format(n, way int) bool {
	c.Helper()
	c.b.Arm(n)
	p, err := pool.Format(c.b)
	isDone := c.crash(n, way, p, err)
	if fresh := anew(c.b); isDone || !c.counts(c.now) {
		c.now = fresh
	}
	if !c.counts(c.now) {
		s, holders, err := super.Read(c.b)
		c.Fatalf("a Format behind %d with %s kept: the superblock is %v, of %v, %v", n, keeps[way].name, s, holders, err)
	}
	return isDone
}

// open makes an Open in which the power goes, and lets the bank crash. The pool is the one that there was.
func (c *cuts) open(n, way int) {
	c.Helper()
	c.b.Arm(n)
	p, err := pool.Open(c.b)
	c.crash(n, way, p, err)
	if !c.counts(c.now) {
		c.Fatalf("an Open behind %d with %s kept: the pool is another one", n, keeps[way].name)
	}
}

// crash lets a bank crash behind a call, and tells whether this was done. If it was, nothing of it can be lost.
func (c *cuts) crash(n, way int, p *pool.Pool, err error) bool {
	c.Helper()
	isDone := err == nil
	if isDone != (p != nil) || isDone == c.b.Down() || !isDone && !errors.Is(err, api.ErrDown) || isDone && c.b.Pending() > 0 {
		c.Fatalf("behind %d: %v, and %d wait", n, err, c.b.Pending())
	}
	next := numbers(10*n + way)
	crashes(c.b, way, &next)
	return isDone
}

// counts tells whether a pool's superblock is the one that counts.
func (c *cuts) counts(x seen) bool {
	s, _, err := super.Read(c.b)
	return err == nil && s.Same(x.Super)
}

// want demands that what is seen of the pool is what must be, and tells the pool.
func (c *cuts) want() *world {
	c.Helper()
	w, got := sees(c.T, c.b)
	if !reflect.DeepEqual(got, c.now) {
		c.Fatalf("the pool is %v, not %v", got, c.now)
	}
	return w
}

// goesOn demands that a pool goes on as any other one does: what it commits lasts, also where the power goes in the commits behind that.
func (c *cuts) goesOn(n, way int) {
	c.Helper()
	w := c.want()
	w.create(9, 9, 1, 2, 3)
	for turn := range 3 {
		must(c.T, "Flush", w.p.Flush())
		gen, was := w.gen(), w.volumes()
		next := numbers(turn)
		w.b.Arm(n % 8)
		if w.p.Flush() == nil {
			gen++
		}
		crashes(w.b, way, &next)
		w.open()
		if now := w.gen(); now != gen && now != gen+1 || !reflect.DeepEqual(w.volumes(), was) {
			c.Fatalf("the generation is %d, and was %d; %v, not %v", now, gen, w.volumes(), was)
		}
	}
	w.want(9, 0, 1, 2, 3, 0)
}

// TestP19_1FormatAnew formats devices on which an earlier pool stands: it plays no part any more, whatever its generations are.
func TestP19_1FormatAnew(t *testing.T) {
	for _, e := range slices.Concat(plains(3, 6), others(), halves()) {
		b := e.make(t)
		p, err := pool.Format(b)
		must(t, "Format", err)
		c := &cuts{t, b, anew(b)}
		w := &world{T: t, b: b, p: p}
		w.wantGen(1)
		if b.Pending() > 0 || !reflect.DeepEqual(w.volumes(), c.now.Volumes) {
			t.Fatalf("%s: %v, and %d wait", e.name, w.volumes(), b.Pending())
		}
		for device := range b.Sizes() {
			if list := super.On(b, device); len(list) != 1 || !list[0].Same(c.now.Super) {
				t.Fatalf("%s: on the device %d %v count", e.name, device, list)
			}
		}
		b.Crash()
		c.want()
		c.goesOn(5, 1)
	}
}

// TestP19_7Format lets the power go at each write and flush of a Format over an earlier pool: that is as it was, or it is the new one.
func TestP19_7Format(t *testing.T) {
	for _, e := range slices.Concat(plains(3, 6), others(), halves()) {
		t.Run(e.name, func(t *testing.T) {
			t.Parallel()
			_, was := sees(t, e.make(t))
			for way := range keeps {
				isDone := false
				for n := 0; !isDone; n++ {
					c := begun(t, e, was)
					isDone = c.format(n, way)
					if n == 0 && !c.counts(was) {
						t.Fatal("nothing was done, and the pool is another one")
					}
					if (n+way)%3 == 0 {
						c.goesOn(n, way)
					} else {
						c.want()
					}
				}
			}
		})
	}
}

// few are earlier pools of each kind.
func few() []earlier {
	list := slices.Concat(plains(3, 4), others())
	for i, e := range halves() {
		if i%7 == 0 {
			list = append(list, e)
		}
	}
	return list
}

// TestP19_7FormatAgain lets the power go in one Format behind the other, with a device more or not, at each write and flush of the first two: till one is done, the pool is the one that there was, or that of one of them.
func TestP19_7FormatAgain(t *testing.T) {
	for at, e := range few() {
		t.Run(e.name, func(t *testing.T) {
			t.Parallel()
			_, was := sees(t, e.make(t))
			isFirst := false
			for first := 0; !isFirst; first++ {
				isSecond := false
				for second := 0; !isSecond; second++ {
					c := begun(t, e, was)
					way := (at + first + second) % len(keeps)
					isFirst = c.format(first, way)
					if second%3 == 2 {
						_, err := c.b.Add(20)
						must(t, "Add", err)
					}
					isSecond = c.format(second, (way+second)%len(keeps))
					c.format((first+second)%9, (way+first)%len(keeps))
					if first%2 == 0 {
						c.want()
					}
					c.format(enough, 0)
					c.want()
				}
			}
		})
	}
}

// TestP19_7FormatOpen lets the power go in a Format, in an Open behind that, and in a Format again.
func TestP19_7FormatOpen(t *testing.T) {
	for at, e := range few() {
		t.Run(e.name, func(t *testing.T) {
			t.Parallel()
			_, was := sees(t, e.make(t))
			isFirst := false
			for first := 0; !isFirst; first++ {
				for opened := range 8 {
					c := begun(t, e, was)
					way, second := (at+first+opened)%len(keeps), (at+5*first+3*opened)%17
					isFirst = c.format(first, way)
					c.open(opened, (way+opened)%len(keeps))
					c.format(second, (way+second)%len(keeps))
					if second%2 == 0 {
						c.open(second%5, way)
					}
					if second%4 > 1 {
						c.goesOn(second, way)
						continue
					}
					c.format(enough, 0)
					c.want()
				}
			}
		})
	}
}

// TestP19_7FormatElsewhere has devices that are none of the earlier pool's, which came or were left: a Format that is not done leaves nothing there by which the new pool could count later.
func TestP19_7FormatElsewhere(t *testing.T) {
	for gen := 1; gen <= 6; gen++ {
		for device := range 3 {
			for way := range keeps {
				was := 0
				for n := range enough {
					w := aged(t, 2, gen)
					if device < 2 && gen > 1 {
						w.left(device)
					}
					_, err := w.b.Add(30)
					must(t, "Add", err)
					before := read(w.b)
					w.b.Arm(n)
					if _, err := pool.Format(w.b); err == nil {
						break
					}
					next := numbers(n)
					crashes(w.b, way, &next)
					if !read(w.b).Same(before) {
						continue
					}
					was++
					w.open()
					r := w.p.Info().Roster
					for at := range w.b.Sizes() {
						if list := super.On(w.b, at); !slices.Contains(r.Members(), at) && len(list) > 0 {
							t.Fatalf("a Format behind %d: on the device %d there is %v", n, at, list)
						}
					}
					must(t, "Flush", w.p.Flush())
					for _, s := range everywhere(w.b) {
						if s.Gen < before.Gen {
							t.Fatalf("a Format behind %d: %v counts", n, s)
						}
					}
				}
				if was == 0 {
					t.Fatal("the earlier pool is never there")
				}
			}
		}
	}
}
