package pool_test

import (
	"fmt"
	"slices"
	"testing"

	"portage/api"
	"portage/thin"
)

// unlit is a pool of one device, which has eight blocks of the volume 1, and committed the volume 2 behind that, of which the opening knows nothing.
func unlit(t *testing.T, size int) *dim {
	t.Helper()
	l := lives(t, size)
	l.run(creates(1, 20), writes(1, 0, span(1, 8)...), flushes(), creates(2, 10))
	l.wantGen(4)
	l.b.Crash()
	d := l.dims(0b01)
	if d.gen() != 3 || d.hidden.Gen != 4 {
		t.Fatalf("%v is hidden from %+v", d.hidden, d.p.Info())
	}
	return d
}

// TestP19_7RefusedExample has a Write refused that lacks some addresses, or just one: all is as if it had not been made. With room that comes it is done, and nothing is hidden any more.
func TestP19_7RefusedExample(t *testing.T) {
	c := writes(1, 8, 1, 2)
	refused := 0
	for size := 15; size <= 24; size++ {
		d := unlit(t, size)
		isRefused := isFull(d.does(c))
		if d.wrote == isRefused || isRefused && size > 20 {
			t.Fatalf("%d sectors: refused: %t", size, isRefused)
		}
		if isRefused {
			refused++
			wantError(t, c.name, d.does(c), api.ErrFull)
		}
		d.ends(size % len(keeps))
		if isRefused {
			w := &world{T: t, b: d.b}
			w.open()
			w.wantGen(4)
			if list := w.p.Info().Volumes; !slices.Equal(list, []thin.Info{{Id: 1, Size: 20, Mapped: 8}, {Id: 2, Size: 10}}) {
				t.Fatalf("%d sectors: %v", size, list)
			}
		}
		for device := range 2 {
			d := unlit(t, size)
			if isFull(d.does(c)) != isRefused {
				t.Fatalf("%d sectors: another answer", size)
			}
			more := d.grows(device, 12)
			must(t, more.name, d.does(more))
			must(t, c.name, d.does(c))
			must(t, "Flush", d.does(flushes()))
			if d.ends(0); !d.wrote {
				t.Fatalf("%d sectors: nothing was written", size)
			}
		}
	}
	if refused < 2 {
		t.Fatalf("%d were refused", refused)
	}
}

// stills are Discards of all that a volume of a scene has: the tree goes as it is, and no page is written.
func stills() []call {
	return []call{discards(3, 0, 9), discards(1, 0, 20), discards(2, 0, 20), discards(3, 5, 4), discards(1, 0, 1)}
}

// lost are calls in a scene that write something behind these.
func lost() []call {
	return []call{
		writes(3, 0, 1), writes(1, 9, span(1, 8)...), flushes(), creates(7, 9), snapshots(7, 1), deletes(1), resizes(1, 2), resizes(1, 99),
	}
}

// shaded is a scene behind so many steps, in which the superblock of a Create is hidden that was done, or cut when it had written all.
func shaded(t *testing.T, steps int, isCut bool) *dim {
	t.Helper()
	l := scene(t, steps)
	gen := l.gen
	c := creates(9, 3)
	if isCut {
		l.b.Arm(shot{steps, func(*life) {}, c}.writesOf(t) - 1)
	}
	if err := c.do(l.p); (err != nil) != isCut {
		t.Fatalf("Create: %v", err)
	}
	keepAll(l.b)
	d := l.dims(rows(3, gen+1))
	if d.gen() != gen || d.hidden.Gen != gen+1 {
		t.Fatalf("%v is hidden from %+v", d.hidden, d.p.Info())
	}
	d.name = fmt.Sprintf("%d steps, cut: %t", steps, isCut)
	return d
}

// discarded makes such Discards, which change something and write nothing.
func (d *dim) discarded(list ...call) {
	d.Helper()
	for _, c := range list {
		before := d.p.Info().Data
		volumes := d.p.Info().Volumes
		must(d.T, c.name, d.does(c))
		if d.wrote || slices.Equal(d.p.Info().Volumes, volumes) || d.p.Info().Data > before {
			d.Fatalf("%s: it wrote: %t, %+v", d.name, d.wrote, d.p.Info())
		}
	}
}

// TestP19_7HiddenDiscard makes Discards that write nothing on a pool from which a commit is hidden, and something behind them, while a device is left, too. If that is refused, or writes nothing, the commit is told when it can be read again, and else the pool that was open.
func TestP19_7HiddenDiscard(t *testing.T) {
	for _, steps := range []int{-1, 0, 1, 2, 7} {
		for _, isCut := range []bool{false, true} {
			t.Run(fmt.Sprint(steps, isCut), func(t *testing.T) {
				t.Parallel()
				for count := 1; count <= 3; count++ {
					d := shaded(t, steps, isCut)
					d.discarded(stills()[:count]...)
					d.ends(count)
				}
				for at, c := range refusals() {
					d := shaded(t, steps, isCut)
					d.discarded(stills()[:1+at%2]...)
					if err := d.does(c); err == nil && word(c) != "Discard" || d.wrote {
						t.Fatalf("%s: %v, it wrote: %t", d.name, err, d.wrote)
					}
					d.discarded(discards(2, 0, 20))
					d.ends(at % len(keeps))
				}
				for at, c := range append(lost(), discards(1, 0, 3)) {
					d := shaded(t, steps, isCut)
					d.discarded(stills()[0])
					if at%2 == 1 && c.name != discards(1, 0, 3).name {
						d.discarded(stills()[1])
					}
					must(t, c.name, d.does(c))
					if !d.wrote {
						t.Fatalf("%s: nothing was written", d.name)
					}
					d.ends(0)
				}
			})
		}
	}
}

// TestP19_7HiddenDiscardLeaving has steps that write nothing between such Discards, and behind them one that does.
func TestP19_7HiddenDiscardLeaving(t *testing.T) {
	for _, isCut := range []bool{false, true} {
		for count := range 6 {
			d := shaded(t, 0, isCut)
			list := []call{discards(3, 0, 9), moves(), discards(2, 0, 20), moves(), moves(), cancels()}
			for _, c := range list[:count] {
				must(t, c.name, d.does(c))
			}
			// A region is planned, one block of it is read, and that is written.
			if d.wrote != (count > 4) {
				t.Fatalf("%s: it wrote: %t", d.name, d.wrote)
			}
			d.ends(count)
		}
	}
}

// TestP19_7DiscardExample has all that a volume has discarded behind an opening that knew nothing of the last commit.
func TestP19_7DiscardExample(t *testing.T) {
	for _, list := range [][]call{{discards(1, 0, 8)}, {discards(1, 0, 20)}, {discards(1, 0, 8), discards(1, 0, 8)}} {
		d := unlit(t, 50)
		for _, c := range list {
			must(t, c.name, d.does(c))
		}
		if d.ends(1); d.wrote {
			t.Fatal("something was written")
		}
		w := &world{T: t, b: d.b}
		w.open()
		w.wantGen(4)
		w.want(1, 0, span(1, 8)...)
	}
}
