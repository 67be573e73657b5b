package pool_test

import (
	"bytes"
	"errors"
	"fmt"
	"math"
	"slices"
	"testing"

	"portage/api"
	"portage/bank"
	"portage/pool"
)

// recover demands that the volumes are those that were durable, each block with what it had or with what was written since, or if the generation is another one those behind the call in which the power went. They are durable from now on.
func (l *life) recover(behind model) {
	l.Helper()
	if l.p.Info().Gen != l.gen {
		l.now = behind.clone()
		l.same()
		l.settle()
		return
	}
	if got, want := l.p.Info().Volumes, l.durable.list(); !slices.Equal(got, want) {
		l.Fatalf("the volumes are %v, not %v", got, want)
	}
	l.now = l.durable.clone()
	for id, v := range l.now {
		for block, c := range v.blocks {
			v.blocks[block] = l.found(id, block, c)
		}
	}
	l.same()
	l.settle()
}

// found is the number of which a block is: what was durable, or something that was written since.
func (l *life) found(id, block, c int) int {
	l.Helper()
	data, err := l.p.Read(id, block, 1)
	must(l.T, "Read", err)
	for _, c := range append([]int{c}, l.since[[2]int{id, block}]...) {
		if bytes.Equal(data, of(c)) {
			return c
		}
	}
	l.Fatalf("the block %d of %d has what nobody wrote since it was durable", block, id)
	return 0
}

// keeps are ways to pick what a crash keeps of so many sectors that wait.
var keeps = []struct {
	name string
	pick func(at, count int, next *numbers) int
}{
	{"nothing", func(int, int, *numbers) int { return 0 }},
	{"all", func(int, int, *numbers) int { return math.MaxInt }},
	{"the first", func(at, _ int, _ *numbers) int { return 1 - at }},
	{"the last", func(at, count int, _ *numbers) int { return at + 2 - count }},
	{"all but the last", func(at, count int, _ *numbers) int { return count - at - 1 }},
	{"some", func(_, _ int, next *numbers) int { return next.below(3) }},
	{"few", func(_, _ int, next *numbers) int { return next.below(5) - 3 }},
	{"many", func(_, _ int, next *numbers) int { return next.below(5) }},
}

// crashes lets a bank crash, with what one way keeps.
func crashes(b *bank.Bank, way int, next *numbers) {
	count := b.Pending()
	var picks []int
	for at := range count {
		picks = append(picks, keeps[way].pick(at, count, next))
	}
	b.Crash(picks...)
}

// wantDead demands that a pool answers ErrDown to all calls, right or wrong.
func wantDead(t *testing.T, p *pool.Pool) {
	t.Helper()
	for _, c := range []call{
		creates(9, 9), creates(0, 0), snapshots(9, 1), snapshots(0, 0), deletes(1), deletes(99), resizes(1, 3), resizes(0, 0),
		writes(1, 0, 1), writes(1, 0), writes(99, -1, 1), discards(1, 0, 1), discards(99, 0, 0), flushes(),
		adds(3), adds(-1), grows(0), grows(-1), evacuates(0), evacuates(1), evacuates(-1), cancels(), moves(),
	} {
		wantError(t, c.name, c.do(p), api.ErrDown)
	}
	for _, id := range []int{0, 1, 99} {
		data, err := p.Read(id, 0, 1)
		wantError(t, "Read", err, api.ErrDown)
		if len(data) != 0 {
			t.Fatal("Read tells something beside an error")
		}
	}
	if did, _ := p.Move(); did != 0 {
		t.Fatal("Move tells something beside an error")
	}
}

// reopen opens the pool anew while the power goes at each write of that, one after the other.
func (l *life) reopen(way int, next *numbers) {
	l.Helper()
	for n := range enough {
		l.b.Arm(n)
		p, err := pool.Open(l.b)
		if err == nil {
			l.b.Arm(-1)
			l.p = p
			return
		}
		if !errors.Is(err, api.ErrDown) || p != nil || !l.b.Down() {
			l.Fatalf("Open: %v", err)
		}
		crashes(l.b, way, next)
	}
	l.Fatal("Open never ends")
}

// scene is a life with volumes that share something, of which some is durable and some is not, and with a mover behind so many steps; none, if that is below 0.
func scene(t *testing.T, steps int) *life {
	t.Helper()
	l := lives(t, 60, 50, 48)
	l.run(creates(1, 20), writes(1, 0, span(1, 8)...), writes(1, 8, 9, 10), snapshots(2, 1), creates(3, 9))
	l.run(writes(3, 0, 31, 32, 33), discards(2, 3, 1), writes(1, 1, 41), flushes())
	if steps >= 0 {
		l.run(evacuates(0))
	}
	for step := range steps {
		if step == 4 {
			l.run(writes(1, 1, 51), writes(3, 1, 52))
		}
		l.run(moves())
	}
	// These are in place, moved, new, and unmapped.
	l.run(writes(3, 0, 61, 62), writes(1, 1, 63), writes(1, 0, 64), writes(1, 15, 65), writes(2, 12, 66), discards(3, 2, 1), discards(1, 9, 1))
	return l
}

// shot is a call in which the power goes, in a scene behind so many steps of a mover, with what must come ahead of it.
type shot struct {
	steps int
	ahead func(l *life)
	call  call
}

// shots are calls of each kind.
func shots(t *testing.T) []shot {
	none := func(*life) {}
	var list []shot
	for _, steps := range []int{-1, 6} {
		for _, c := range []call{
			creates(4, 7), snapshots(4, 1), snapshots(4, 3), deletes(1), deletes(2), deletes(3), resizes(1, 3), resizes(2, 900), flushes(),
			writes(1, 0, span(71, 8)...), writes(3, 0, 81, 82, 83), writes(2, 0, 84, 85), discards(1, 0, 6), discards(3, 0, 9), discards(2, 0, 20),
		} {
			list = append(list, shot{steps, none, c})
		}
		list = append(list,
			shot{steps, func(l *life) { _, err := l.b.Add(30); must(t, "Add", err) }, adds(3)},
			shot{steps, func(l *life) { must(t, "Grow", l.b.Grow(1, 9)) }, grows(1)},
			shot{steps, func(l *life) { must(t, "Grow", l.b.Grow(0, 9)) }, grows(0)})
	}
	list = append(list, shot{-1, none, evacuates(0)}, shot{-1, none, evacuates(2)})
	for steps := range 12 {
		list = append(list, shot{steps, none, cancels()})
	}
	return list
}

// strike lets the power go in a call behind n writes and flushes, the bank crash, and the pool be opened anew: then it must be right, and its life goes on. It tells whether the power went.
func (s shot) strike(t *testing.T, n, way int) bool {
	t.Helper()
	l := scene(t, s.steps)
	s.ahead(l)
	next := numbers(n*100 + way)
	if !l.strike(s.call, n, way, &next) {
		return false
	}
	l.goOn()
	return true
}

// strike lets the power go in a call behind n writes and flushes.
func (l *life) strike(c call, n, way int, next *numbers) bool {
	l.Helper()
	behind := l.now.clone()
	must(l.T, c.name, c.on(behind))
	gen, before := l.gen, l.tells()
	l.b.Arm(n)
	err := c.do(l.p)
	if !l.b.Down() {
		l.b.Arm(-1)
		if l.isTight && (errors.Is(err, api.ErrFull) || errors.Is(err, api.ErrSpace)) {
			wantSame(l.T, c.name, l.tells(), before)
			return false
		}
		must(l.T, c.name, err)
		l.note(behind)
		return false
	}
	if !errors.Is(err, api.ErrDown) {
		l.Fatalf("%s: %v", c.name, err)
	}
	dead := l.p
	if n%2 == 0 {
		// Else the pool is asked nothing till the power is back.
		wantDead(l.T, dead)
	}
	l.await(behind)
	crashes(l.b, way, next)
	wantDead(l.T, dead)
	l.reopen(way, next)
	if now := l.p.Info().Gen; now < gen || now > gen+2 {
		l.Fatalf("the generation is %d, and was %d", now, gen)
	}
	l.recover(behind)
	wantDead(l.T, dead)
	return true
}

// await keeps in mind what a call that was not acknowledged may have written.
func (l *life) await(behind model) {
	for id, v := range behind {
		for block, c := range v.blocks {
			l.since[[2]int{id, block}] = append(l.since[[2]int{id, block}], c)
		}
	}
}

// goOn has a life go on: what is acknowledged from now on lasts, and the device that is left, if there is one, is left.
func (l *life) goOn() {
	l.Helper()
	l.run(writes(3, 0, 101, 102), discards(3, 1, 1), flushes(), writes(3, 1, 103))
	durable := l.durable
	l.b.Crash()
	l.open()
	l.recover(durable)
	l.run(creates(8, 5), writes(8, 0, 104))
	if device := l.p.Info().Leaving; device >= 0 {
		l.leave(func(int) {})
		l.note(l.now)
		must(l.T, "Fill", l.b.Fill(device, of(77)))
	}
	l.same()
	l.run(flushes())
	l.b.Crash()
	l.open()
	l.recover(nil)
}

// TestP19_7Each lets the power go at each write and flush of each kind of call.
func TestP19_7Each(t *testing.T) {
	for _, s := range shots(t) {
		for way := range keeps {
			t.Run(fmt.Sprintf("%s %d %s", s.call.name, s.steps, keeps[way].name), func(t *testing.T) {
				t.Parallel()
				for n := range enough {
					if !s.strike(t, n, way) {
						return
					}
				}
				t.Fatal("the call never ends")
			})
		}
	}
}

// TestP19_7Down has a power that went while no call was made: the pool is dead, too.
func TestP19_7Down(t *testing.T) {
	l := scene(t, 5)
	l.b.Arm(0)
	if l.b.Flush(0) == nil {
		t.Fatal("the power is up")
	}
	wantDead(t, l.p)
	keepAll(l.b)
	wantDead(t, l.p)
	durable := l.durable
	l.open()
	l.recover(durable)
}

// TestP19_7Move lets the power go at each write and flush of each step by which a device is left.
func TestP19_7Move(t *testing.T) {
	last := 0
	for !isOver(t, last) {
		last++
	}
	if last < 10 {
		t.Fatalf("%d steps are enough", last)
	}
	for way := range keeps {
		for steps := range last {
			t.Run(fmt.Sprintf("%d %s", steps, keeps[way].name), func(t *testing.T) {
				t.Parallel()
				s := shot{steps, func(*life) {}, moves()}
				for n := range enough {
					if !s.strike(t, n, way) {
						return
					}
				}
				t.Fatal("the step never ends")
			})
		}
	}
}

// isOver tells whether a device is left behind so many steps.
func isOver(t *testing.T, steps int) bool {
	t.Helper()
	if steps > enough {
		t.Fatal("the device is never left")
	}
	return scene(t, steps).p.Info().Leaving < 0
}

// TestP19_7Long goes through long lives in which the power goes again and again.
func TestP19_7Long(t *testing.T) {
	for seed := range 24 {
		t.Run(fmt.Sprint(seed), func(t *testing.T) {
			t.Parallel()
			next := numbers(seed)
			l := lives(t, 200, 190, 180)
			l.run(creates(1, 40), creates(2, 30), snapshots(3, 1))
			went := 0
			for range 250 {
				for range next.below(6) {
					l.run(l.change(&next))
					l.device(&next)
				}
				if l.harm(&next) {
					went++
				}
			}
			if went < 5 {
				t.Fatalf("the power went %d times", went)
			}
		})
	}
}

// TestP19_7Tight lets the power go again and again in lives on devices that are nearly full.
func TestP19_7Tight(t *testing.T) {
	for seed := range 40 {
		t.Run(fmt.Sprint(seed), func(t *testing.T) {
			t.Parallel()
			next := numbers(seed)
			l := lives(t, 20+seed%30, 22+seed%17, 24+seed%13)
			l.isTight = true
			for range 120 {
				for range next.below(6) {
					l.mayRun(l.tight(&next))
				}
				c := l.tight(&next)
				if c.on(l.now.clone()) == nil {
					l.strike(c, next.below(24), next.below(len(keeps)), &next)
				}
			}
		})
	}
}

// harm makes a call in which the power may go, and tells whether it did.
func (l *life) harm(next *numbers) bool {
	l.Helper()
	c := l.change(next)
	i := l.p.Info()
	actives := i.Roster.Actives()
	switch kind := next.below(4); {
	case i.Leaving >= 0 && kind < 2:
		c = moves()
	case i.Leaving >= 0 && kind < 3:
		c = cancels()
	case i.Leaving < 0 && kind < 2 && len(actives) > 2:
		c = evacuates(actives[next.below(len(actives))])
	}
	if c.on(l.now.clone()) != nil {
		return false
	}
	return l.strike(c, next.below(24), next.below(len(keeps)), next)
}
