package pool_test

import (
	"fmt"
	"reflect"
	"slices"
	"strings"
	"testing"

	"portage/api"
	"portage/bank"
)

// harms are what may happen to a device that nobody needs.
func harms(t *testing.T) map[string]func(b *bank.Bank, device int) {
	return map[string]func(b *bank.Bank, device int){
		"noughts": func(b *bank.Bank, device int) { must(t, "Fill", b.Fill(device, nil)) },
		"bytes":   func(b *bank.Bank, device int) { must(t, "Fill", b.Fill(device, []byte("what nobody has"))) },
		"sectors": func(b *bank.Bank, device int) {
			for sector := range b.Sizes()[device] {
				must(t, "Write", b.Write(device, sector, of(sector+1)))
			}
			must(t, "Flush", b.Flush(device))
		},
		"bad": func(b *bank.Bank, device int) {
			for sector := range b.Sizes()[device] {
				must(t, "Bad", b.Bad(device, sector, true))
			}
		},
		"detached": func(b *bank.Bank, device int) { must(t, "Detach", b.Detach(device)) },
		"greater":  func(b *bank.Bank, device int) { must(t, "Grow", b.Grow(device, 50)) },
	}
}

// removed is a life that has left the device 0.
func removed(t *testing.T) *life {
	t.Helper()
	l := scene(t, 0)
	l.leave(func(int) {})
	l.settle()
	if l.p.Info().Roster.State(0) != api.Removed {
		t.Fatal("the device 0 is not Removed")
	}
	return l
}

// TestP19_8Removed lets each harm come to a device behind Empty, at once or behind an Open: no answer is another one than without it, behind crashes too.
func TestP19_8Removed(t *testing.T) {
	for name, harm := range harms(t) {
		for _, isOpened := range []bool{false, true} {
			l, other := removed(t), removed(t)
			if isOpened {
				l.crash()
				other.crash()
			}
			harm(l.b, 0)
			next := numbers(5)
			for turn := range 120 {
				at := next
				l.later(turn, &next)
				other.later(turn, &at)
				if got, want := l.tells(), other.tells(); !reflect.DeepEqual(got, want) {
					t.Fatalf("%s, %d: %+v, not %+v", name, turn, got, want)
				}
			}
			l.same()
		}
	}
}

// later does something to the volumes or the devices, or lets the bank crash.
func (l *life) later(turn int, next *numbers) {
	l.Helper()
	switch {
	case turn == 40:
		_, err := l.b.Add(150)
		must(l.T, "Add", err)
		l.run(adds(3))
	case turn == 60:
		l.run(evacuates(1))
	case turn > 60 && l.p.Info().Leaving >= 0:
		l.run(moves())
	case turn%10 == 9:
		l.b.Crash()
		l.open()
		l.recover(nil)
	default:
		l.mayRun(l.change(next))
	}
}

// TestP19_8Struck lets the power go in the last step: where Open says that the device is Removed, nothing is on it.
func TestP19_8Struck(t *testing.T) {
	steps := 0
	for !isOver(t, steps+1) {
		steps++
	}
	said := 0
	for way := range keeps {
		for n := range enough {
			l := scene(t, steps)
			next := numbers(n)
			if !l.strike(moves(), n, way, &next) {
				break
			}
			if l.p.Info().Roster.State(0) != api.Removed {
				continue
			}
			said++
			must(t, "Detach", l.b.Detach(0))
			l.same()
			l.crash()
			l.same()
			l.run(creates(8, 5), writes(8, 0, 1), flushes())
			l.crash()
			l.same()
		}
	}
	if said == 0 {
		t.Fatal("the device is never Removed behind a crash")
	}
}

// TestP19_8Given has a device on which nothing is but what was given back: behind Empty it may go, wherever the power goes.
func TestP19_8Given(t *testing.T) {
	for way := range keeps {
		for n := range enough {
			l := bare(t)
			l.unmap()
			next := numbers(n)
			went := l.strike(moves(), n, way, &next)
			if !went && l.p.Info().Roster.State(0) != api.Removed {
				t.Fatal("the device 0 is not Removed")
			}
			if l.p.Info().Roster.State(0) == api.Removed {
				must(t, "Detach", l.b.Detach(0))
			}
			l.same()
			if !went {
				l.crash()
				l.same()
				break
			}
			l.lasts()
		}
	}
}

// lasts demands that what is acknowledged from now on lasts, with the device 0 left if it was not.
func (l *life) lasts() {
	l.Helper()
	if l.p.Info().Leaving == 0 {
		l.leave(func(int) {})
		l.note(l.now)
		must(l.T, "Detach", l.b.Detach(0))
	}
	l.run(creates(8, 5), writes(8, 0, 1), flushes())
	l.crash()
	l.same()
}

// TestP19_8Old demands that no superblock that counts anywhere has the device as a member, and that its sectors for superblocks stay as they are.
func TestP19_8Old(t *testing.T) {
	l := removed(t)
	for _, s := range everywhere(l.b) {
		if slices.Contains(s.Roster.Members(), 0) {
			t.Fatalf("%v counts", s)
		}
	}
	for range 3 {
		for slot := range api.Slots {
			data, err := l.b.Read(0, slot)
			must(t, "Read", err)
			if strings.Trim(string(data), "\x00") != "" {
				t.Fatalf("in the sector %d there is %x", slot, data)
			}
		}
		l.crash()
		l.same()
		l.run(flushes())
	}
}

// TestP19_8Draining demands that nothing new is taken on a device that is left, and that no write goes there but to blocks that are there.
func TestP19_8Draining(t *testing.T) {
	for seed := range 8 {
		t.Run(fmt.Sprint(seed), func(t *testing.T) {
			l := lives(t, 200, 190, 180)
			next := numbers(seed)
			l.run(creates(1, 40), creates(2, 30), snapshots(3, 1))
			for range 60 {
				l.run(l.change(&next))
			}
			device := next.below(3)
			l.run(evacuates(device))
			was := l.p.Manager().Space().On(device)
			for range enough {
				l.run(l.change(&next))
				if next.below(2) == 0 {
					l.run(moves())
				}
				now := l.p.Manager().Space().On(device)
				for _, addr := range now {
					if !slices.Contains(was, addr) {
						t.Fatalf("%d is new", addr)
					}
				}
				if was = now; l.p.Info().Leaving < 0 {
					break
				}
				if l.p.Info().Roster.State(device) != api.Draining {
					t.Fatalf("%+v", l.p.Info())
				}
			}
			if l.p.Info().Roster.State(device) != api.Removed || len(was) != 0 {
				t.Fatalf("%v are on the device", was)
			}
			l.same()
		})
	}
}
