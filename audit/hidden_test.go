package audit_test

import (
	"fmt"
	"slices"
	"testing"

	"portage/api"
	"portage/audit"
	"portage/bank"
	"portage/pool"
)

// slots lets the sectors for superblocks of a generation be bad on all devices, or not.
func slots(t *testing.T, b *bank.Bank, gen int, on bool) {
	t.Helper()
	for device := range b.Sizes() {
		must(t, "Bad", b.Bad(device, gen%api.Slots, on))
	}
}

// TestP22_3Hidden has a commit cut at each write and flush, whose superblocks can't be read when the pool is opened behind that: when they can be again the pool is sound that was open, and wrote blocks, in which the power did not go.
func TestP22_3Hidden(t *testing.T) {
	for devices := 1; devices <= 3; devices++ {
		for way := range keeps {
			t.Run(fmt.Sprint(devices, " ", keeps[way].name), func(t *testing.T) {
				for n := range enough {
					w := made(t, slices.Repeat([]int{50}, devices)...)
					must(t, "Create", w.p.Create(1, 10))
					gen := w.p.Info().Gen
					next := numbers(n)
					w.b.Arm(n)
					if w.p.Create(2, 10) == nil {
						return
					}
					crashes(w.b, way, &next)
					slots(t, w.b, gen+1, true)
					p, err := pool.Open(w.b)
					must(t, "Open", err)
					w.p = p
					w.write(1, 0, span(1, 8)...)
					slots(t, w.b, gen+1, false)
					crashes(w.b, way, &next)
					r, err := audit.Audit(w.b)
					must(t, "Audit", err)
					if r.Gen != gen || r.Volumes != 1 || !audit.Sound(w.b) {
						t.Fatalf("cut behind %d: %+v, and the generation was %d", n, r, gen)
					}
				}
				t.Fatal("the call never ends")
			})
		}
	}
}

// TestP22_3Left has a device that was left, and superblocks of the other one that can't be read for a while: nothing is told of the pool meanwhile, and behind that it is as it was.
func TestP22_3Left(t *testing.T) {
	for device := range 2 {
		w := made(t, 50, 50)
		w.left(device)
		must(t, "Create", w.p.Create(1, 10))
		was := audited(t, w.b)
		if was.On[device] != (audit.Count{}) {
			t.Fatalf("Audit: %+v", was)
		}
		for slot := range api.Slots {
			must(t, "Bad", w.b.Bad(1-device, slot, true))
		}
		w.b.Crash()
		wantCode(t, w.b, api.ErrNone)
		if _, err := pool.Open(w.b); err != api.ErrNone {
			t.Fatalf("Open: %v", err)
		}
		for slot := range api.Slots {
			must(t, "Bad", w.b.Bad(1-device, slot, false))
		}
		w.b.Crash()
		wantReport(t, w.b, was)
	}
}

// TestP22_3HiddenFormat has a Format cut at each write and flush over a pool that wrote behind its last commit, whose newest superblock can't be read just then: when it can be again there is a sound pool, that one or the new one.
func TestP22_3HiddenFormat(t *testing.T) {
	for devices := 1; devices <= 3; devices++ {
		for way := range keeps {
			t.Run(fmt.Sprint(devices, " ", keeps[way].name), func(t *testing.T) {
				for n := range enough {
					w := made(t, slices.Repeat([]int{70}, devices)...)
					must(t, "Create", w.p.Create(1, 24))
					w.write(1, 9, span(1, 4)...)
					must(t, "Create", w.p.Create(3, 10))
					gen := w.p.Info().Gen
					for at := 0; at < 24; at += 8 {
						w.write(1, at, span(10+at, 8)...)
					}
					slots(t, w.b, gen, true)
					next := numbers(n)
					w.b.Arm(n)
					_, err := pool.Format(w.b)
					crashes(w.b, way, &next)
					slots(t, w.b, gen, false)
					r, e := audit.Audit(w.b)
					must(t, "Audit", e)
					isEarlier := r.Gen == gen && r.Volumes == 2
					isNew := r.Volumes+r.Data+r.Pages == 0 && len(r.On) == devices
					if !audit.Sound(w.b) || !isNew && (err == nil || !isEarlier) {
						t.Fatalf("cut behind %d: %+v", n, r)
					}
					p, e := pool.Open(w.b)
					must(t, "Open", e)
					if i := p.Info(); i.Gen != r.Gen || len(i.Volumes) != r.Volumes {
						t.Fatalf("cut behind %d: %+v, and %+v", n, i, r)
					}
					if err == nil {
						return
					}
				}
				t.Fatal("the call never ends")
			})
		}
	}
}
