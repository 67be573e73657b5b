package pool_test

import (
	"slices"
	"testing"

	"portage/api"
	"portage/super"
)

// filled is a life on two devices without any room, whose last two commits are alike; none, if these numbers fill no device wholly. What is free is on a device that is left.
func filled(t *testing.T, seed int, sizes ...int) *life {
	t.Helper()
	l := lives(t, sizes...)
	next := numbers(seed)
	l.run(creates(1, 200), creates(2, 9), writes(2, 0, 1, 2), flushes())
	for range 60 {
		l.mayRun(writes(1+next.below(2), next.below(9), next.below(1000)))
		if next.below(3) == 0 {
			l.mayRun(writes(1, next.below(200), next.below(1000)))
		}
		l.mayRun(flushes())
	}
	l.crash()
	l.recover(l.durable)
	for device, size := range slices.Backward(sizes) {
		if l.p.Manager().Space().Used(device) == size-api.Slots {
			l.run(evacuates(1-device), flushes(), flushes())
			return l
		}
	}
	return nil
}

// blocked is such a life.
func blocked(t *testing.T, seed int) *life { return filled(t, seed, 8+seed%5, 8+seed%7) }

// paged is such a life in which pages alone are on the device that is left.
func paged(t *testing.T, seed int) *life {
	t.Helper()
	l := filled(t, seed, 4+seed%4, 9+seed%7)
	if l == nil || l.p.Info().Leaving != 0 || onDevice(0, l.p.Manager().Data()) > 0 || onDevice(0, l.p.Manager().Pages()) == 0 {
		return nil
	}
	return l
}

// full has the last commit hidden from an opening, and makes a call behind that without any room. It tells whether the call was refused. Where nothing was written the commit is there when it can be read again, and so it is if the call was refused.
func (l *life) full(c call, way int) bool {
	l.Helper()
	gen := l.gen
	bad := l.last()
	if l.settle(); l.p.Info().Free > 0 {
		l.Fatalf("there is room: %+v", l.p.Info())
	}
	done := l.b.Done()
	isRefused := l.mayRun(c)
	wrote := l.b.Done() > done
	if isRefused && wrote {
		l.Fatalf("%s: %d writes and flushes", c.name, l.b.Done()-done)
	}
	if wrote {
		gen = l.gen
	}
	set(l.T, l.b, bad, false)
	next, durable := numbers(way), l.durable
	crashes(l.b, way, &next)
	l.open()
	if l.p.Info().Gen != gen {
		l.Fatalf("%s: the generation is %d, not %d", c.name, l.p.Info().Gen, gen)
	}
	if wrote {
		l.recover(durable)
		return isRefused
	}
	l.now = durable
	l.same()
	return isRefused
}

// TestP19_7HiddenFull has no room: what needs some is refused ahead of the first write, and what is hidden stays; what needs none is done.
func TestP19_7HiddenFull(t *testing.T) {
	for name, make := range map[string]func(t *testing.T, seed int) *life{"blocks": blocked, "pages": paged} {
		t.Run(name, func(t *testing.T) {
			t.Parallel()
			count := 0
			refused := map[string]int{}
			for seed := range 80 {
				if make(t, seed) == nil {
					continue
				}
				count++
				for _, c := range []call{
					creates(7, 9), snapshots(7, 1), deletes(2), resizes(1, 3), resizes(2, 50), writes(1, 150, 1), writes(2, 8, 7), discards(1, 0, 8), moves(),
					writes(2, 1, 9), discards(2, 0, 9), flushes(), resizes(2, 9), cancels(),
				} {
					if make(t, seed).full(c, seed%len(keeps)) {
						refused[c.name]++
					}
				}
			}
			if count < 3 || len(refused) < 8 || refused["Move"] == 0 {
				t.Fatalf("%d pools were filled, and refused: %v", count, refused)
			}
		})
	}
}

// TestP19_7HiddenFullAdd has a device hidden that would have given the room: a commit that needs none leaves nothing of that.
func TestP19_7HiddenFullAdd(t *testing.T) {
	count := 0
	for seed := range 60 {
		l := blocked(t, seed)
		if l == nil {
			continue
		}
		count++
		bad := rows(3, l.gen+1)
		device, err := l.b.Add(30)
		must(t, "Add", err)
		// Three members are flushed, written, and all but the last one flushed.
		l.b.Arm(3 + 3 + 2)
		if l.p.Add(device) == nil || !l.b.Down() {
			t.Fatal("the power did not go in Add")
		}
		keepAll(l.b)
		hidden := read(l.b)
		set(t, l.b, bad, true)
		l.open()
		if hidden.Gen != l.gen+1 || l.p.Info().Gen != l.gen || l.p.Info().Free > 0 {
			t.Fatalf("%v is hidden from %+v", hidden, l.p.Info())
		}
		l.run(flushes())
		set(t, l.b, bad, false)
		now := read(l.b)
		if slices.ContainsFunc(everywhere(l.b), func(s super.Super) bool { return s.Gen >= now.Gen && !s.Same(now) }) {
			t.Fatalf("%v counts, and there are %v", now, everywhere(l.b))
		}
		l.b.Crash()
		l.open()
		l.same()
		l.wantGen(now.Gen)
	}
	if count < 3 {
		t.Fatalf("%d pools were filled", count)
	}
}
