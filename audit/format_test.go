package audit_test

import (
	"errors"
	"fmt"
	"reflect"
	"testing"

	"portage/api"
	"portage/audit"
	"portage/bank"
	"portage/pool"
)

// aged is a pool on so many devices, of a generation, with a volume from the second one on, and its blocks from the third one on.
func aged(t *testing.T, devices, gen int) *world {
	t.Helper()
	var sizes []int
	for device := range devices {
		sizes = append(sizes, 40+device)
	}
	w := made(t, sizes...)
	for g := 2; g <= gen; g++ {
		if g == 2 {
			must(t, "Create", w.p.Create(1, 20))
			continue
		}
		w.write(1, g, span(g, 8)...)
		must(t, "Flush", w.p.Flush())
	}
	w.wantInfo()
	return w
}

// fresh is the report of a pool that was just formatted.
func fresh(b *bank.Bank) audit.Report {
	return audit.Report{Gen: 1, On: make([]audit.Count, len(b.Sizes()))}
}

// TestP22_3Format lets the power go at each write and flush of a Format: behind it the pool is sound, the new one, or the one that there was.
func TestP22_3Format(t *testing.T) {
	for devices := 1; devices <= 3; devices++ {
		for gen := 1; gen <= 6; gen++ {
			was := audited(t, aged(t, devices, gen).b)
			for way := range keeps {
				isDone := false
				for n := 0; !isDone; n++ {
					w := aged(t, devices, gen)
					w.b.Arm(n)
					_, err := pool.Format(w.b)
					isDone = err == nil
					next := numbers(n)
					crashes(w.b, way, &next)
					if r := audited(t, w.b); !reflect.DeepEqual(r, fresh(w.b)) && (isDone || !reflect.DeepEqual(r, was)) {
						t.Fatalf("%d devices, behind %d with %s kept: %+v, and it was %+v", devices, n, keeps[way].name, r, was)
					}
					w.p, err = pool.Open(w.b)
					must(t, "Open", err)
					w.wantInfo()
				}
			}
		}
	}
}

// set lets those of the sectors for superblocks be bad, or not, that have a bit.
func set(t *testing.T, b *bank.Bank, bits int, on bool) {
	t.Helper()
	for i := range len(b.Sizes()) * api.Slots {
		if bits>>i&1 == 1 {
			must(t, "Bad", b.Bad(i/api.Slots, i%api.Slots, on))
		}
	}
}

// TestP22_3FormatUnread has any of the sectors for superblocks bad in a Format, and in commits behind it, in the last of which the power goes: when they are good the report is that of the new pool.
func TestP22_3FormatUnread(t *testing.T) {
	for devices := 1; devices <= 2; devices++ {
		for gen := 1; gen <= 6; gen++ {
			for bits := range 1 << (devices * api.Slots) {
				for n := range 10 {
					w := aged(t, devices, gen)
					set(t, w.b, bits, true)
					p, err := pool.Format(w.b)
					must(t, "Format", err)
					for id := range (gen + n) % 4 {
						must(t, "Create", p.Create(10+id, 9))
					}
					set(t, w.b, bits, false)
					w.p = p
					w.wantInfo()
					was := audited(t, w.b)
					set(t, w.b, bits, true)
					w.b.Arm(n)
					err = p.Create(20, 9)
					next := numbers(n)
					crashes(w.b, (bits+n)%len(keeps), &next)
					set(t, w.b, bits, false)
					r := audited(t, w.b)
					if isNew := r.Gen == was.Gen+1 && r.Volumes == was.Volumes+1 && r.Data == 0; !isNew && (err == nil || !reflect.DeepEqual(r, was)) {
						t.Fatalf("%b was bad, behind %d: %+v, and it was %+v", bits, n, r, was)
					}
					w.p, err = pool.Open(w.b)
					must(t, "Open", err)
					w.wantInfo()
				}
			}
		}
	}
}

// format makes a Format in which the power goes behind n writes and flushes, lets the bank crash, and opens the pool anew while the power goes again and again. It tells whether the power went.
func (l *life) format(n, way int, next *numbers) bool {
	l.Helper()
	l.b.Arm(n)
	p, err := pool.Format(l.b)
	if err == nil {
		l.b.Arm(-1)
		l.p, l.now = p, model{}
		l.settle()
		return false
	}
	if !errors.Is(err, api.ErrDown) || p != nil || !l.b.Down() {
		l.Fatalf("Format: %v", err)
	}
	wantCode(l.T, l.b, api.ErrDown)
	crashes(l.b, way, next)
	if reflect.DeepEqual(audited(l.T, l.b), fresh(l.b)) {
		l.durable, l.gen, l.since = model{}, 1, map[place][]string{}
	}
	l.reopen(way, next, l.durable)
	if gen := l.p.Info().Gen; gen != l.gen {
		l.Fatalf("the generation is %d, not %d", gen, l.gen)
	}
	l.recover(l.durable)
	return true
}

// TestP22_3FormatLives goes through long lives with a Format now and then, in which the power goes or sectors for superblocks are bad, as it goes in all other calls. What was left may have any bytes.
func TestP22_3FormatLives(t *testing.T) {
	for seed := range 16 {
		t.Run(fmt.Sprint(seed), func(t *testing.T) {
			t.Parallel()
			next := numbers(seed)
			l := lives(t, 190, 180, 200)
			went, kept := 0, 0
			for range 120 {
				for range next.below(12) {
					l.run(l.change(&next))
				}
				l.strike(l.device(&next), next.below(24), next.below(len(keeps)), &next)
				for device, e := range l.p.Info().Roster.List {
					if e.State == api.Removed && next.below(3) == 0 {
						must(t, "Fill", l.b.Fill(device, of(device+77)))
						l.wantKept()
					}
				}
				switch next.below(6) {
				case 0:
					bits := next.below(1 << (api.Slots * len(l.b.Sizes())))
					set(t, l.b, bits, true)
					p, err := pool.Format(l.b)
					must(t, "Format", err)
					set(t, l.b, bits, false)
					l.p, l.now = p, model{}
					l.settle()
				case 1, 2:
					gen := l.gen
					if l.format(next.below(30), next.below(len(keeps)), &next) {
						went++
					}
					if l.gen == gen {
						kept++
					}
				}
			}
			l.same()
			if went < 5 || kept < 5 {
				t.Fatalf("the power went in %d Formats, behind %d the earlier pool was there", went, kept)
			}
		})
	}
}
