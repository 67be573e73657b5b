package pool_test

import (
	"errors"
	"fmt"
	"reflect"
	"slices"
	"testing"

	"portage/api"
	"portage/bank"
	"portage/pool"
	"portage/super"
)

// dark is a bank on which an earlier pool stands, and whose sectors for superblocks are bad while Formats and openings are made there.
type dark struct {
	*testing.T
	b   *bank.Bank
	bad slots
	// may are the pools that were durable, one of which is there when all can be read, unless it is a new one, if a Format was begun.
	may      []seen
	isBegun  bool
	isFormat bool
	name     string
}

// mays are what there may be when all can be read: the pool that counts, and if its last commit was cut, the one ahead of that, too.
func mays(t *testing.T, e earlier) []seen {
	t.Helper()
	_, x := sees(t, copied(t, e.make(t)))
	list := []seen{x}
	b := copied(t, e.make(t))
	if s, holders, _ := super.Read(b); !slices.Equal(holders, s.Roster.Members()) {
		for _, device := range holders {
			must(t, "Write", b.Write(device, s.Gen%api.Slots, make([]byte, api.Sector)))
		}
		_, x := sees(t, b)
		list = append(list, x)
	}
	return list
}

// darks are earlier pools of each kind, and some that wrote behind their last commits over what older superblocks name.
func darks() []earlier {
	list := slices.Concat(plains(2, 5), others())
	for i, e := range halves() {
		if i%5 == 0 {
			list = append(list, e)
		}
	}
	for gen := 3; gen <= 6; gen++ {
		for devices := 1; devices <= 2; devices++ {
			list = append(list, earlier{fmt.Sprintf("%d devices, written behind the generation %d", devices, gen), func(t *testing.T) *bank.Bank {
				w := aged(t, devices, gen)
				for at := 0; at < 24; at += api.MaxRun {
					w.write(1, at, span(300+at, api.MaxRun)...)
				}
				keepAll(w.b)
				return w.b
			}})
		}
	}
	return list
}

// format makes a Format in which the power goes behind n writes and flushes, and lets the bank crash.
func (d *dark) format(n, way int) {
	d.Helper()
	d.name += fmt.Sprintf(", Format behind %d, %s kept", n, keeps[way].name)
	d.b.Arm(n)
	_, err := pool.Format(d.b)
	d.crash(n, way)
	d.isBegun, d.isFormat = true, err == nil
	switch {
	case err == nil:
		d.may = []seen{anew(d.b)}
	case !errors.Is(err, api.ErrDown):
		d.Fatalf("%s: %v", d.name, err)
	}
}

// open makes an Open in which the power goes, and lets the bank crash.
func (d *dark) open(n, way int) {
	d.Helper()
	d.name += fmt.Sprintf(", Open behind %d, %s kept", n, keeps[way].name)
	d.b.Arm(n)
	if _, err := pool.Open(d.b); err == nil {
		d.isFormat = false
	}
	d.crash(n, way)
}

// commit opens the pool, if it can be, and lets it commit: then it is the one that is there, and no other one.
func (d *dark) commit() {
	d.Helper()
	p, err := pool.Open(d.b)
	if err != nil {
		return
	}
	d.name += ", a commit"
	must(d.T, "Create", p.Create(1000, 3))
	must(d.T, "Delete", p.Delete(1000))
	w := &world{T: d.T, b: d.b, p: p}
	d.may = []seen{{super.Super{Gen: p.Info().Gen, Root: p.Manager().Root(), Roster: p.Info().Roster}, w.volumes()}}
	d.isBegun, d.isFormat = false, false
}

// crash lets the bank crash.
func (d *dark) crash(n, way int) {
	next := numbers(10*n + way)
	crashes(d.b, way, &next)
}

// light lets all be read, and demands one of the pools that may be there. It goes on as any other one does.
func (d *dark) light(n, way int) {
	d.Helper()
	set(d.T, d.b, d.bad, false)
	d.b.Crash()
	counts := read(d.b)
	_, got := sees(d.T, d.b)
	isIn := slices.ContainsFunc(d.may, func(x seen) bool { return reflect.DeepEqual(x, got) })
	isFresh := d.isBegun && !d.isFormat && isNew(counts, d.b) && len(got.Volumes) == 0
	if !isIn && !isFresh {
		d.Fatalf("%s: the pool is %v, and not of %v", d.name, got, d.may)
	}
	if list := everywhere(d.b); d.isFormat && (len(list) != len(d.b.Sizes()) || got.Super.Gen != 1) {
		d.Fatalf("%s: a Format was done, and there are %v", d.name, list)
	}
	(&cuts{d.T, d.b, got}).goesOn(n, way)
}

// goes does something while the sectors are bad still.
func (d *dark) goes(next *numbers) {
	d.Helper()
	way := next.below(len(keeps))
	switch next.below(7) {
	case 0, 1, 2:
		d.format(next.below(24), way)
	case 3:
		d.format(enough, way)
	case 4:
		d.open(enough, way)
	case 5:
		d.open(next.below(8), way)
	case 6:
		d.commit()
	}
}

// TestP19_7FormatDark lets the power go at each write and flush of a Format while sectors for superblocks are bad, and makes other Formats and openings behind that, cut and done, and commits, while they still are. When all can be read there is the earlier pool as it was durable or the new one, and it goes on.
func TestP19_7FormatDark(t *testing.T) {
	for at, e := range darks() {
		t.Run(e.name, func(t *testing.T) {
			t.Parallel()
			may := mays(t, e)
			devices := len(e.make(t).Sizes())
			bads := append(some(devices)[1:], 1<<(devices*api.Slots)-1)
			for i, bad := range bads {
				for n := range 2 + 6*devices {
					next := numbers(1000*at + 100*i + n)
					d := &dark{T: t, b: e.make(t), bad: bad, may: may, name: fmt.Sprintf("%b is bad", bad)}
					set(t, d.b, bad, true)
					d.format(n, (at+i+n)%len(keeps))
					for range n % 4 {
						d.goes(&next)
					}
					d.light(n, i%len(keeps))
				}
			}
		})
	}
}

// TestP19_7FormatDarkAgain has nothing to be read in one Format behind the other that is cut, each over the pool that the one ahead left, which made commits since: its generations are as great as the new one's would have been then.
func TestP19_7FormatDarkAgain(t *testing.T) {
	for devices := 1; devices <= 2; devices++ {
		for n := range 2 + 6*devices {
			for way := range keeps {
				w := made(t, slices.Repeat([]int{90}, devices)...)
				w.create(1, 9, 1, 2)
				bad := slots(1<<(devices*api.Slots) - 1)
				gens := 0
				for round := range 4 {
					keepAll(w.b)
					w.open()
					w.create(10+round, 9, round, 2, 3)
					if err := w.p.Delete(9); err != nil {
						wantError(t, "Delete", err, api.ErrVolume)
					}
					must(t, "Flush", w.p.Flush())
					w.b.Crash()
					_, was := sees(t, w.b)
					d := &dark{T: t, b: w.b, bad: bad, may: []seen{was}, name: fmt.Sprint("the round ", round)}
					set(t, w.b, bad, true)
					wantNoPool(t, "Open", w.b, pool.Open, api.ErrNone)
					d.format(n, way)
					if round%2 == 1 {
						d.format((n+round)%4, (way+round)%len(keeps))
					}
					d.light(n, way)
					if now := read(w.b).Gen; now > was.Super.Gen && now > 1<<50 {
						gens++
					}
				}
				if n == 1 && way == 1 && gens != 4 {
					t.Fatalf("%d new pools had great generations", gens)
				}
			}
		}
	}
}

// TestP19_7FormatGreat has earlier pools of great generations, of which the last ones can't be read.
func TestP19_7FormatGreat(t *testing.T) {
	with := func(gen int) super.Super {
		return super.Super{Gen: gen, Root: 7, Roster: anew(banked(t, 3, 3)).Super.Roster}
	}
	for _, last := range []int{1 << 31, 1 << 59, 1<<60 - 1<<40, 1<<60 - 9, 1<<60 - 2, 1<<60 - 1} {
		for gen := last - 1; gen <= last; gen++ {
			var l laid
			l[gen%api.Slots], l[(gen+1)%api.Slots] = with(gen), with(gen-1)
			for _, bad := range []slots{0b0001, 0b0101, 0b1010, 0b1110, 0b1011} {
				formatsAny(t, []laid{l, l}, bad)
			}
		}
	}
	// Past the bound nothing is promised of them, but that a Format that is done makes the new pool.
	for _, gen := range []int{1 << 60, 1<<60 + 1, 1<<61 - 1, 1 << 61} {
		for _, bad := range each(2) {
			var l laid
			l[gen%api.Slots], l[(gen+1)%api.Slots] = with(gen), with(gen-1)
			b := lays(t, []laid{l, l})
			set(t, b, bad, true)
			p, err := pool.Format(b)
			must(t, "Format", err)
			set(t, b, bad, false)
			(&world{T: t, b: b, p: p}).wantGen(1)
			if list := everywhere(b); len(list) != 2 {
				t.Fatalf("there are %v", list)
			}
		}
	}
}

// TestP19_7FormatDarkLeft has nothing to be read while a Format is made and cut over a pool that left its first devices, and just these not be read while the pool is opened behind that, and commits: that is what is told when all can be read.
func TestP19_7FormatDarkLeft(t *testing.T) {
	for device := range 2 {
		for n := range 20 {
			for way := range keeps {
				w := aged(t, 3, 3)
				for at := range device + 1 {
					w.left(at)
				}
				_, was := sees(t, w.b)
				d := &dark{T: t, b: w.b, bad: 0b111111, may: []seen{was}}
				set(t, w.b, d.bad, true)
				d.format(n, way)
				set(t, w.b, d.bad, false)
				d.bad = 1<<((device+1)*api.Slots) - 1
				set(t, w.b, d.bad, true)
				d.commit()
				d.light(n, way)
			}
		}
	}
}
