package audit_test

import (
	"errors"
	"fmt"
	"math"
	"slices"
	"testing"

	"portage/api"
	"portage/audit"
	"portage/bank"
	"portage/pool"
	"portage/queue"
)

// keeps are ways to pick what a crash keeps of so many sectors that wait.
var keeps = []struct {
	name string
	pick func(at, count int, next *numbers) int
}{
	{"nothing", func(int, int, *numbers) int { return 0 }},
	{"all", func(int, int, *numbers) int { return math.MaxInt }},
	{"the first", func(at, _ int, _ *numbers) int { return 1 - at }},
	{"the last", func(at, count int, _ *numbers) int { return at + 2 - count }},
	{"some", func(_, _ int, next *numbers) int { return next.below(3) }},
	{"few", func(_, _ int, next *numbers) int { return next.below(5) - 3 }},
}

// crashes lets a bank crash, with what one way keeps.
func crashes(b *bank.Bank, way int, next *numbers) {
	count := b.Pending()
	var picks []int
	for at := range count {
		picks = append(picks, keeps[way].pick(at, count, next))
	}
	b.Crash(picks...)
}

// struck demands that the pool is sound behind a crash, ahead of any opening, and tells the report. It has what was durable, or what the call would have made in which the power went.
func (l *life) struck(behind model) audit.Report {
	l.Helper()
	r, err := audit.Audit(l.b)
	must(l.T, "Audit", err)
	isOld := r.Gen == l.gen && r.Volumes == len(l.durable)
	isNew := r.Gen > l.gen && r.Gen <= l.gen+2 && r.Volumes == len(behind)
	if !audit.Sound(l.b) || !isOld && !isNew {
		l.Fatalf("Audit: %+v, and %d was the last generation, with %d volumes, or %d", r, l.gen, len(l.durable), len(behind))
	}
	return r
}

// reopen opens the pool anew while the power goes at each write of that, one after the other.
func (l *life) reopen(way int, next *numbers, behind model) {
	l.Helper()
	for n := range enough {
		was := l.struck(behind)
		l.b.Arm(n)
		p, err := pool.Open(l.b)
		if err == nil {
			l.b.Arm(-1)
			l.p = p
			l.wantInfo()
			if now := audited(l.T, l.b); now.Gen != was.Gen || now.Mapped != was.Mapped || !slices.Equal(now.On, was.On) {
				l.Fatalf("Open: %+v, and it was %+v", now, was)
			}
			return
		}
		if !errors.Is(err, api.ErrDown) || p != nil || !l.b.Down() {
			l.Fatalf("Open: %v", err)
		}
		wantCode(l.T, l.b, api.ErrDown)
		crashes(l.b, way, next)
	}
	l.Fatal("Open never ends")
}

// recover demands that the volumes are those that were durable, each block with what it had or with what was written since, or if the generation is another one those behind the call in which the power went. They are durable from now on.
func (l *life) recover(behind model) {
	l.Helper()
	if l.p.Info().Gen != l.gen {
		l.now = behind.clone()
	} else {
		l.now = l.durable.clone()
		for id, v := range l.now {
			for block := range v.blocks {
				v.blocks[block] = l.found(place{id, block})
			}
		}
	}
	l.same()
	l.settle()
}

// found is what a block has: what was durable, or something that was written since.
func (l *life) found(at place) string {
	l.Helper()
	x := l.ask(queue.Request{Kind: read, Id: at.id, Block: at.block, N: 1})
	must(l.T, "Read", x.Err)
	if was := l.durable[at.id].at(at.block); string(x.Data) != was && !slices.Contains(l.since[at], string(x.Data)) {
		l.Fatalf("the block %v has what nobody wrote since it was durable", at)
	}
	return string(x.Data)
}

// strike lets the power go in a call behind n writes and flushes, lets the bank crash, and opens the pool anew. It tells whether the power went.
func (l *life) strike(r queue.Request, n, way int, next *numbers) bool {
	l.Helper()
	behind := l.now.clone()
	if _, err := behind.do(r); err != nil {
		l.run(r)
		return false
	}
	l.b.Arm(n)
	x := l.ask(r)
	if !l.b.Down() {
		l.b.Arm(-1)
		if l.isTight && isRoom(x.Err) {
			return false
		}
		must(l.T, fmt.Sprint(r), x.Err)
		l.note(behind)
		return false
	}
	if !errors.Is(x.Err, api.ErrDown) {
		l.Fatalf("%v: %v", r, x.Err)
	}
	wantCode(l.T, l.b, api.ErrDown)
	for id, v := range behind {
		for block, data := range v.blocks {
			at := place{id, block}
			l.since[at] = append(l.since[at], data)
		}
	}
	crashes(l.b, way, next)
	l.reopen(way, next, behind)
	l.recover(behind)
	return true
}

// scene is a life with volumes that share something, of which some is durable and some is not, and with a mover behind so many steps; none, if that is below 0.
func scene(t *testing.T, steps int) *life {
	t.Helper()
	l := lives(t, 60, 50, 48)
	writes := func(id, block int, list ...int) queue.Request {
		return queue.Request{Kind: write, Id: id, Block: block, Data: of(list...)}
	}
	l.run(queue.Request{Kind: create, Id: 1, N: 20}, writes(1, 0, span(1, 8)...), writes(1, 8, 9, 10), queue.Request{Kind: snapshot, Id: 2, N: 1})
	l.run(queue.Request{Kind: create, Id: 3, N: 9}, writes(3, 0, 31, 32, 33), queue.Request{Kind: discard, Id: 2, Block: 3, N: 1}, writes(1, 1, 41), queue.Request{Kind: flush})
	if steps >= 0 {
		l.run(queue.Request{Kind: evacuate})
	}
	for step := range steps {
		if step == 4 {
			l.run(writes(1, 1, 51), writes(3, 1, 52))
		}
		l.run(queue.Request{Kind: move})
	}
	// These are in place, moved, new, and unmapped.
	l.run(writes(3, 0, 61, 62), writes(1, 1, 63), writes(1, 0, 64), writes(1, 15, 65), writes(2, 12, 66))
	l.run(queue.Request{Kind: discard, Id: 3, Block: 2, N: 1}, queue.Request{Kind: discard, Id: 1, Block: 9, N: 1})
	return l
}

// shot is a call in which the power goes, in a scene behind so many steps of a mover.
type shot struct {
	steps int
	r     queue.Request
}

// shots are calls of each kind, and each step by which a device is left.
func shots(t *testing.T) []shot {
	var list []shot
	for _, steps := range []int{-1, 6} {
		for _, r := range []queue.Request{
			{Kind: create, Id: 4, N: 7}, {Kind: snapshot, Id: 4, N: 1}, {Kind: remove, Id: 1}, {Kind: remove, Id: 3}, {Kind: resize, Id: 1, N: 3}, {Kind: resize, Id: 2, N: 900}, {Kind: flush},
			{Kind: write, Id: 1, Data: of(span(71, 8)...)}, {Kind: write, Id: 3, Data: of(81, 82, 83)}, {Kind: discard, Id: 1, N: 6}, {Kind: discard, Id: 3, N: 9},
			{Kind: add, Id: 3}, {Kind: grow, Id: 0}, {Kind: grow, Id: 1},
		} {
			list = append(list, shot{steps, r})
		}
	}
	list = append(list, shot{-1, queue.Request{Kind: evacuate}}, shot{-1, queue.Request{Kind: evacuate, Id: 2}})
	for steps := range 12 {
		list = append(list, shot{steps, queue.Request{Kind: cancel}})
	}
	for steps := 0; scene(t, steps).p.Info().Leaving >= 0; steps++ {
		list = append(list, shot{steps, queue.Request{Kind: move}})
	}
	return list
}

// TestP22_3Each lets the power go at each write and flush of each kind of call, of each step, and of each opening behind it.
func TestP22_3Each(t *testing.T) {
	list := shots(t)
	if len(list) < 50 {
		t.Fatalf("just %d calls", len(list))
	}
	for _, s := range list {
		for way := range keeps {
			t.Run(fmt.Sprintf("%d %v %s", s.steps, s.r.Kind, keeps[way].name), func(t *testing.T) {
				t.Parallel()
				went := true
				for n := 0; went; n++ {
					if n > enough {
						t.Fatal("the call never ends")
					}
					l := scene(t, s.steps)
					_, err := l.b.Add(30)
					must(t, "Add", err)
					must(t, "Grow", l.b.Grow(0, 9))
					must(t, "Grow", l.b.Grow(1, 9))
					next := numbers(n*100 + way)
					if went = l.strike(s.r, n, way, &next); went && n%3 == 0 {
						l.goOn()
					}
				}
			})
		}
	}
}

// goOn has a life go on behind a crash: the device that is left, if there is one, is left within layer 17's bound.
func (l *life) goOn() {
	l.Helper()
	l.run(queue.Request{Kind: create, Id: 8, N: 5}, queue.Request{Kind: write, Id: 8, Data: of(104)}, queue.Request{Kind: flush})
	if l.p.Info().Leaving >= 0 {
		l.leaveIn(0, 0)
	}
	l.lose()
	l.same()
	l.run(queue.Request{Kind: flush})
}

// TestP22_3Lives goes through long lives in which the power goes again and again, in openings too.
func TestP22_3Lives(t *testing.T) {
	for seed := range 16 {
		t.Run(fmt.Sprint(seed), func(t *testing.T) {
			t.Parallel()
			next := numbers(seed)
			l := lives(t, 200, 190, 180)
			if seed%2 == 1 {
				l = lives(t, 20+seed%30, 22+seed%17, 24+seed%13)
				l.isTight = true
			}
			went := 0
			for range 150 {
				for range next.below(5) {
					l.run(l.change(&next))
				}
				r := l.change(&next)
				if next.below(2) == 0 {
					r = l.device(&next)
				}
				if l.strike(r, next.below(24), next.below(len(keeps)), &next) {
					went++
				}
			}
			l.lose()
			l.same()
			if went < 5 {
				t.Fatalf("the power went %d times", went)
			}
		})
	}
}
