package queue_test

import (
	"math"
	"slices"
	"strings"
	"testing"

	"portage/api"
	"portage/queue"
)

// isBeside tells whether the second of two requests may go ahead beside the first one. Nothing is done.
func isBeside(t *testing.T, first, second queue.Request) bool {
	t.Helper()
	q := queue.New(nil)
	for i, r := range []queue.Request{first, second} {
		if ticket, err := q.Submit(r); ticket != i+1 || err != nil {
			t.Fatalf("Submit(%v): %d, %v", r, ticket, err)
		}
	}
	ready := q.Ready()
	if len(ready) == 0 || ready[0] != 1 || len(ready) == 2 && ready[1] != 2 || len(ready) > 2 {
		t.Fatalf("%v, %v: Ready: %v", first, second, ready)
	}
	return len(ready) == 2
}

// wantTogether demands that two requests may go ahead together, or may not, whichever comes first.
func wantTogether(t *testing.T, a, b queue.Request, want bool) {
	t.Helper()
	if isBeside(t, a, b) != want || isBeside(t, b, a) != want {
		t.Fatalf("%v, %v: they go ahead together: %v, and %v the other way round, not %v", a, b, isBeside(t, a, b), isBeside(t, b, a), want)
	}
}

// TestP20_1Matrix has for each two kinds, in their order, whether they may go ahead together: x where they may not. The requests of blocks name the same ones.
func TestP20_1Matrix(t *testing.T) {
	list := []queue.Request{
		creates(1, 9), snapshots(1, 2), removes(1), resizes(1, 9), reads(1, 3, 2), writes(1, 3, 1, 2), discards(1, 3, 2), flushes(),
		adds(1), grows(1), evacuates(1), cancels(), moves(),
	}
	same := strings.Fields(`
		xxxxxxxxxxxxx
		xxxxxxxxxxxxx
		xxxxxxxxxxxxx
		xxxxxxxx.....
		xxxx.xx......
		xxxxxxxx.....
		xxxxxxxx.....
		xxxx.xx.xxxxx
		xxx....xxxxxx
		xxx....xxxxxx
		xxx....xxxxxx
		xxx....xxxxxx
		xxx....xxxxxx`)
	// Of two volumes, or of blocks that don't meet, but Resize.
	apart := strings.Fields(`
		xxxxxxxxxxxxx
		xxxxxxxxxxxxx
		xxxxxxxxxxxxx
		xxx....x.....
		xxx..........
		xxx....x.....
		xxx....x.....
		xxxx.xx.xxxxx
		xxx....xxxxxx
		xxx....xxxxxx
		xxx....xxxxxx
		xxx....xxxxxx
		xxx....xxxxxx`)
	for i, a := range list {
		for j, b := range list {
			wantTogether(t, a, b, same[i][j] == '.')
			other := b
			other.Id = 2
			wantTogether(t, a, other, apart[i][j] == '.')
			if a.Kind == resize || b.Kind == resize {
				continue
			}
			for _, block := range []int{0, 1, 5, 6, 1 << 40} {
				other = b
				other.Block = block
				wantTogether(t, a, other, apart[i][j] == '.')
			}
			for _, block := range []int{2, 4} {
				other = b
				other.Block = block
				wantTogether(t, a, other, same[i][j] == '.')
			}
		}
	}
}

// TestP20_1Blocks has requests of one volume with blocks that meet, touch, lie within one another, and don't meet.
func TestP20_1Blocks(t *testing.T) {
	for _, c := range []struct {
		from, count, other, length int
		meet                       bool
	}{
		{0, 4, 3, 1, true}, {0, 4, 4, 1, false}, {0, 4, 5, 1, false}, {0, 1, 0, 1, true}, {3, 1, 3, 1, true}, {3, 1, 2, 3, true},
		{3, 1, 2, 1, false}, {3, 1, 0, 3, false}, {3, 1, 0, 4, true}, {0, 8, 7, 8, true}, {0, 8, 8, 8, false}, {19, 1, 18, 1, false}, {19, 8, 20, 1, true},
		{math.MaxInt, 1, math.MaxInt, 1, true}, {math.MaxInt, 5, math.MaxInt - 1, 1, false}, {math.MaxInt - 1, 5, math.MaxInt, 2, true}, {math.MaxInt, 5, 0, 5, false},
	} {
		var first, second []queue.Request
		for id := 1; id <= 2; id++ {
			first = append(first, reads(id, c.from, c.count), writes(id, c.from, span(1, c.count)...), discards(id, c.from, c.count))
			second = append(second, reads(id, c.other, c.length), writes(id, c.other, span(1, c.length)...), discards(id, c.other, c.length))
		}
		for _, a := range first {
			for _, b := range second {
				wantTogether(t, a, b, a.Id != b.Id || !c.meet || a.Kind == read && b.Kind == read)
			}
		}
	}
}

// TestP20_1Many has blocks of the greatest count that is right.
func TestP20_1Many(t *testing.T) {
	for _, most := range []queue.Request{discards(1, 5, 1<<30), discards(1, 5, 1<<30-1)} {
		end := 5 + most.N
		for _, r := range []queue.Request{reads(1, 4, 1), reads(1, 0, 5), reads(1, end, 1), writes(1, end, 1), discards(1, end, 1<<30), reads(2, 5, 1), moves()} {
			wantTogether(t, most, r, true)
		}
		for _, r := range []queue.Request{reads(1, 5, 1), reads(1, end-1, 1), writes(1, 0, 1, 2, 3, 4, 5, 6), discards(1, 4, 1<<30), flushes(), resizes(1, 5)} {
			wantTogether(t, most, r, false)
		}
	}
	wantTogether(t, reads(1, 0, 1<<30), writes(2, 0, 1), true)
	wantTogether(t, reads(1, 0, 1<<30), writes(1, 900, 1), false)
	wantTogether(t, reads(1, 0, 1<<30), writes(1, 1<<30, 1), true)
}

// probes are requests by which it is told what another one touches.
func probes() []queue.Request {
	return []queue.Request{
		creates(1, 1), flushes(), moves(), resizes(1, 1), resizes(2, 1), reads(1, 0, 1), reads(1, 1, 1), writes(1, 0, 1), writes(1, 1, 1), writes(2, 7, 1), discards(2, 1, 1),
		reads(1<<21, 0, 1), writes(1<<21, 0, 1),
	}
}

// wantLike demands that a request goes ahead beside all others just as another one does.
func wantLike(t *testing.T, r, other queue.Request) {
	t.Helper()
	for _, probe := range probes() {
		wantTogether(t, r, probe, isBeside(t, other, probe))
	}
}

// TestP20_1NotRight has requests whose spans would not be right, or would have no blocks: they touch what Flush touches.
func TestP20_1NotRight(t *testing.T) {
	var list []queue.Request
	for _, id := range []int{1, 2, 1 << 20, 1 << 21, math.MaxInt} {
		for _, n := range edges {
			if n < 0 {
				list = append(list, reads(id, n, 1), discards(id, n, 1), writes(id, n, 1), writes(id, n, 1, 2), lays(id, n, of(1, 2)[:200]))
				list = append(list, reads(id, n, n), discards(id, n, n), writes(id, n))
			}
			if n < 1 || n > 1<<30 {
				list = append(list, reads(id, 0, n), discards(id, 0, n), reads(id, 5, n), discards(id, math.MaxInt, n))
			}
		}
		for _, size := range []int{0, 1, 2, 64, 126, 127} {
			for _, block := range []int{math.MinInt, -1, 0, 1, math.MaxInt} {
				list = append(list, lays(id, block, of(7)[:size]), queue.Request{Kind: write, Id: id, Block: block, N: 1, Data: of(7)[:size]})
			}
		}
		list = append(list, queue.Request{Kind: write, Id: id, N: 1})
	}
	for _, id := range edges {
		if id < 1 {
			list = append(list, resizes(id, 1), resizes(id, id), reads(id, 0, 1), writes(id, 0, 1), discards(id, 0, 1), reads(id, -1, -1), lays(id, 0, nil))
		}
	}
	for _, r := range list {
		wantLike(t, r, flushes())
	}
	for _, a := range list[:200] {
		for _, b := range list[len(list)-30:] {
			wantTogether(t, a, b, true)
		}
	}
}

// TestP20_1Whole demands that Write names as many blocks as its Data has whole ones, and Read and Discard N, whatever else is handed in.
func TestP20_1Whole(t *testing.T) {
	for _, size := range []int{128, 129, 192, 255} {
		for _, n := range edges {
			r := queue.Request{Kind: write, Id: 1, Block: 3, N: n, Data: of(1, 2)[:size]}
			wantLike(t, r, discards(1, 3, 1))
			wantTogether(t, r, reads(1, 3, 1), false)
			wantTogether(t, r, reads(1, 4, 1), true)
			wantTogether(t, r, reads(1, 2, 1), true)
		}
	}
	for count := 1; count <= 20; count++ {
		r := lays(1, 3, append(of(span(1, count)...), 1, 2, 3))
		wantTogether(t, r, reads(1, 2+count, 1), false)
		wantTogether(t, r, reads(1, 3+count, 1), true)
	}
	for _, kind := range []int{read, discard} {
		r := queue.Request{Kind: kind, Id: 1, Block: 3, N: 2, Data: of(1, 2, 3, 4)}
		wantTogether(t, r, writes(1, 4, 1), false)
		wantTogether(t, r, writes(1, 5, 1), true)
		r.N = 0
		wantLike(t, r, flushes())
	}
}

// TestP20_1Unused hands in numbers that a kind's span has nothing to do with.
func TestP20_1Unused(t *testing.T) {
	for _, plain := range []queue.Request{creates(1, 1), snapshots(1, 1), removes(1), resizes(1, 1), flushes(), adds(1), grows(1), evacuates(1), cancels(), moves()} {
		for _, n := range edges {
			r := queue.Request{Kind: plain.Kind, Id: n, Block: n, N: n, Data: of(1)}
			if plain.Kind == resize {
				r.Id = 1
			}
			wantLike(t, r, plain)
		}
	}
	for _, r := range []queue.Request{creates(0, 0), snapshots(-1, -1), removes(0)} {
		wantTogether(t, r, reads(1, 0, 1), false)
	}
}

// TestP20_1Volumes has requests of volumes that there cannot be, and of the one whose number is that of devices' spans.
func TestP20_1Volumes(t *testing.T) {
	for _, id := range edges {
		if id < 1 {
			continue
		}
		for _, r := range []queue.Request{resizes(id, 1), reads(id, 0, 1), writes(id, 0, 1), discards(id, 0, 1)} {
			for _, device := range []queue.Request{adds(id), grows(id), evacuates(id), cancels(), moves()} {
				wantTogether(t, r, device, id != 1<<21)
			}
			for _, other := range edges {
				if other > 0 {
					wantTogether(t, r, writes(other, 0, 1), id != other)
					wantTogether(t, r, writes(other, 1, 1), id != other || r.Kind != resize)
				}
			}
		}
	}
}

// touched is what a request touches as the chapter's words put it: which of the first 8 blocks of the volumes 1 to 3, and of the devices' one, and whether it writes.
func touched(r queue.Request) (blocks [4]uint8, isWrite bool) {
	all := [4]uint8{255, 255, 255, 255}
	count := r.N
	switch {
	case r.Kind <= remove:
		return all, true
	case r.Kind == flush:
		return all, false
	case r.Kind > flush:
		return [4]uint8{3: 255}, true
	case r.Id < 1:
		return all, false
	case r.Kind == resize:
		blocks[r.Id-1] = 255
		return blocks, true
	case r.Kind == write:
		count = len(r.Data) / api.Sector
	}
	if r.Block < 0 || count < 1 || count > 1<<30 {
		return all, false
	}
	for block := range 8 {
		if block >= r.Block && block < r.Block+count {
			blocks[r.Id-1] |= 1 << block
		}
	}
	return blocks, r.Kind != read
}

// clash is whether two requests touch the same blocks, and one of them writes.
func clash(a, b queue.Request) bool {
	first, isFirst := touched(a)
	second, isSecond := touched(b)
	for i := range first {
		if first[i]&second[i] != 0 && (isFirst || isSecond) {
			return true
		}
	}
	return false
}

// numbers hands out numbers that leap about, the same ones each time.
type numbers uint64

// below is the next one, from 0 to below n.
func (x *numbers) below(n int) int {
	*x = *x*6364136223846793005 + 1442695040888963407
	return int(uint64(*x) >> 33 % uint64(n))
}

// small is a request of any kind that names volumes from 0 to 3, and blocks below 8 or none.
func (x *numbers) small() queue.Request {
	r := queue.Request{Kind: 1 + x.below(13), Id: x.below(4), Block: x.below(9) - 1, N: x.below(4)}
	if x.below(3) > 0 {
		r.Kind = read + x.below(3)
	}
	if x.below(20) == 0 {
		r.N = []int{-1, 1<<30 + 1, math.MinInt, math.MaxInt}[x.below(4)]
	}
	r.Data = make([]byte, x.below(400))
	return r
}

// TestP20_1Long lets requests come and be done, in any order that there may be: which may go ahead is as the chapter's words put it.
func TestP20_1Long(t *testing.T) {
	for seed := range 30 {
		next := numbers(seed)
		w := made(t, 60, 60)
		var list []queue.Request
		var waiting, ready []int
		for turn := range 150 {
			if len(waiting) == 0 || next.below(100) < 65-turn/5 {
				list = append(list, next.small())
				w.submit(list[len(list)-1])
				waiting = append(waiting, len(list))
			} else {
				pick := next.below(2*len(ready)) - len(ready)
				ticket := ready[(pick+len(ready))%len(ready)]
				w.step(pick, ticket)
				waiting = slices.DeleteFunc(waiting, func(other int) bool { return other == ticket })
			}
			ready = nil
			for i, ticket := range waiting {
				if !slices.ContainsFunc(waiting[:i], func(other int) bool { return clash(list[other-1], list[ticket-1]) }) {
					ready = append(ready, ticket)
				}
			}
			w.wantWaiting(waiting...)
			w.wantReady(ready...)
		}
	}
}
