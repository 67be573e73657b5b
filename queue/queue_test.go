package queue_test

import (
	"crypto/sha256"
	"errors"
	"fmt"
	"math"
	"reflect"
	"slices"
	"testing"

	"portage/api"
	"portage/bank"
	"portage/fault"
	"portage/pool"
	"portage/queue"
	"portage/thin"
)

// The kinds as the chapter numbers them.
const (
	create   = 1
	snapshot = 2
	remove   = 3
	resize   = 4
	read     = 5
	write    = 6
	discard  = 7
	flush    = 8
	add      = 9
	grow     = 10
	evacuate = 11
	cancel   = 12
	move     = 13
)

// edges are numbers at the ends of what kinds, blocks and counts may be, and past them.
var edges = []int{
	math.MinInt, math.MinInt + 1, math.MinInt32, -1 << 21, -14, -13, -8, -2, -1, 0, 1, 2, 3, 7, 8, 9, 13, 14, 20, 31, 32, 33, 4096,
	1<<20 - 1, 1 << 20, 1<<20 + 1, 1<<21 - 1, 1 << 21, 1<<21 + 1, 1<<30 - 1, 1 << 30, 1<<30 + 1, math.MaxInt32, 1 << 32, 1 << 62, math.MaxInt - 1, math.MaxInt,
}

// creates and those behind it are requests of each kind.
func creates(id, size int) queue.Request { return queue.Request{Kind: create, Id: id, N: size} }
func snapshots(id, from int) queue.Request {
	return queue.Request{Kind: snapshot, Id: id, N: from}
}
func removes(id int) queue.Request       { return queue.Request{Kind: remove, Id: id} }
func resizes(id, size int) queue.Request { return queue.Request{Kind: resize, Id: id, N: size} }
func reads(id, block, count int) queue.Request {
	return queue.Request{Kind: read, Id: id, Block: block, N: count}
}
func writes(id, block int, list ...int) queue.Request { return lays(id, block, of(list...)) }
func lays(id, block int, data []byte) queue.Request {
	return queue.Request{Kind: write, Id: id, Block: block, Data: data}
}
func discards(id, block, count int) queue.Request {
	return queue.Request{Kind: discard, Id: id, Block: block, N: count}
}
func flushes() queue.Request             { return queue.Request{Kind: flush} }
func adds(device int) queue.Request      { return queue.Request{Kind: add, Id: device} }
func grows(device int) queue.Request     { return queue.Request{Kind: grow, Id: device} }
func evacuates(device int) queue.Request { return queue.Request{Kind: evacuate, Id: device} }
func cancels() queue.Request             { return queue.Request{Kind: cancel} }
func moves() queue.Request               { return queue.Request{Kind: move} }

// world is a queue, its pool and that one's bank.
type world struct {
	*testing.T
	b *bank.Bank
	p *pool.Pool
	q *queue.Queue
}

// must demands that a call is not refused.
func must(t *testing.T, what string, err error) {
	t.Helper()
	if err != nil {
		t.Fatalf("%s: %v", what, err)
	}
}

// wantCode demands that err is this code, with no fault around it.
func wantCode(t *testing.T, what string, err error, want api.Code) {
	t.Helper()
	var f *fault.Fault
	if err != error(want) || !errors.Is(err, want) || errors.As(err, &f) {
		t.Fatalf("%s: %v, not %v", what, err, want)
	}
}

// made is a queue of a new pool over devices of so many sectors.
func made(t *testing.T, sizes ...int) *world {
	t.Helper()
	b := bank.New()
	for _, size := range sizes {
		_, err := b.Add(size)
		must(t, "Add", err)
	}
	p, err := pool.Format(b)
	must(t, "Format", err)
	return &world{T: t, b: b, p: p, q: queue.New(p)}
}

// scene has the volumes 1 and 2, each of 20 blocks of which the first ones are written, and a snapshot 3 of the first one. The device 2 is not the pool's yet, and the device 1 is greater than the pool knows.
func scene(t *testing.T) *world {
	t.Helper()
	w := made(t, 90, 80)
	for id := 1; id <= 2; id++ {
		must(t, "Create", w.p.Create(id, 20))
		must(t, "Write", w.p.Write(id, 0, of(span(10*id, 8)...)))
	}
	must(t, "Snapshot", w.p.Snapshot(3, 1))
	must(t, "Write", w.p.Write(1, 0, of(19)))
	_, err := w.b.Add(70)
	must(t, "Add", err)
	must(t, "Grow", w.b.Grow(1, 5))
	return w
}

// of are blocks, each with bytes of its own; of 0 they are noughts.
func of(list ...int) []byte {
	var data []byte
	for _, c := range list {
		for i := range api.Sector {
			data = append(data, byte(c*(i+1)+c>>8))
		}
	}
	return data
}

// span are so many numbers, from one on.
func span(from, count int) []int {
	var list []int
	for i := range count {
		list = append(list, from+i)
	}
	return list
}

// submit lets requests wait, and demands that their tickets rise by one.
func (w *world) submit(list ...queue.Request) {
	w.Helper()
	for _, r := range list {
		want := len(w.q.Waiting()) + len(w.q.Results()) + 1
		if ticket, err := w.q.Submit(r); ticket != want || err != nil {
			w.Fatalf("Submit(%v): %d, %v, not %d", r, ticket, err, want)
		}
	}
}

// step does a step, and demands that it does the request with this ticket.
func (w *world) step(pick, ticket int) queue.Result {
	w.Helper()
	x, err := w.q.Step(pick)
	if x.Ticket != ticket || err != nil {
		w.Fatalf("Step(%d): %v, %v, not of %d", pick, x, err, ticket)
	}
	return x
}

// wantReady demands that just the requests with these tickets may go ahead.
func (w *world) wantReady(list ...int) {
	w.Helper()
	if got := w.q.Ready(); !slices.Equal(got, list) {
		w.Fatalf("Ready: %v, not %v", got, list)
	}
}

// wantWaiting demands that just the requests with these tickets were not done.
func (w *world) wantWaiting(list ...int) {
	w.Helper()
	if got := w.q.Waiting(); !slices.Equal(got, list) {
		w.Fatalf("Waiting: %v, not %v", got, list)
	}
}

// done tells the tickets of all results, in the order in which Results has them.
func (w *world) done() []int { return tickets(w.q.Results()) }

// tickets tells the tickets of results.
func tickets(list []queue.Result) []int {
	var numbers []int
	for _, x := range list {
		numbers = append(numbers, x.Ticket)
	}
	return numbers
}

// wantIdle demands that nothing may go ahead, and that asking for it changes nothing.
func (w *world) wantIdle() {
	w.Helper()
	before, done := w.tells(), w.done()
	for _, pick := range edges {
		x, err := w.q.Step(pick)
		wantCode(w.T, "Step", err, api.ErrIdle)
		if !reflect.DeepEqual(x, queue.Result{}) {
			w.Fatalf("Step: %v beside an error", x)
		}
	}
	if list := w.q.Drain(); len(list) > 0 {
		w.Fatalf("Drain: %v", list)
	}
	if list := w.q.Drain(edges...); len(list) > 0 {
		w.Fatalf("Drain: %v", list)
	}
	w.wantReady()
	w.wantWaiting()
	if !slices.Equal(w.done(), done) {
		w.Fatalf("Results: %v, and it was %v", w.done(), done)
	}
	wantSame(w.T, "Step", w.tells(), before)
}

// told is what a pool and its bank tell.
type told struct {
	Info          pool.Info
	Data, Pages   []int
	Volumes       map[thin.Info]string
	Done, Pending int
}

// tells is all that is told.
func (w *world) tells() told {
	w.Helper()
	return told{w.p.Info(), w.p.Manager().Data(), w.p.Manager().Pages(), w.volumes(), w.b.Done(), w.b.Pending()}
}

// volumes is what a pool tells of its volumes, with the digest of all that each has and of what is refused.
func (w *world) volumes() map[thin.Info]string {
	w.Helper()
	list := map[thin.Info]string{}
	for _, v := range w.p.Info().Volumes {
		sum := sha256.New()
		for at := 0; at < v.Size; at += api.MaxRun {
			data, err := w.p.Read(v.Id, at, min(api.MaxRun, v.Size-at))
			sum.Write(data)
			fmt.Fprint(sum, err)
		}
		list[v] = fmt.Sprintf("%.6x", sum.Sum(nil))
	}
	return list
}

// wantSame demands that nothing that is told is different.
func wantSame(t *testing.T, what string, got, want told) {
	t.Helper()
	if !reflect.DeepEqual(got, want) {
		t.Fatalf("%s: %+v, not %+v", what, got, want)
	}
}

// direct makes the call that a request is, as the chapter puts it.
func direct(p *pool.Pool, r queue.Request) queue.Result {
	var x queue.Result
	switch r.Kind {
	case 1:
		x.Err = p.Create(r.Id, r.N)
	case 2:
		x.Err = p.Snapshot(r.Id, r.N)
	case 3:
		x.Err = p.Delete(r.Id)
	case 4:
		x.Err = p.Resize(r.Id, r.N)
	case 5:
		x.Data, x.Err = p.Read(r.Id, r.Block, r.N)
	case 6:
		x.Err = p.Write(r.Id, r.Block, r.Data)
	case 7:
		x.Err = p.Discard(r.Id, r.Block, r.N)
	case 8:
		x.Err = p.Flush()
	case 9:
		x.Err = p.Add(r.Id)
	case 10:
		x.Err = p.Grow(r.Id)
	case 11:
		x.Err = p.Evacuate(r.Id)
	case 12:
		x.Err = p.Cancel()
	case 13:
		x.N, x.Err = p.Move()
	}
	return x
}

// isSame tells whether two results are the same, but for their tickets. Nil and empty Data are one.
func isSame(a, b queue.Result) bool {
	return reflect.DeepEqual(a.Err, b.Err) && slices.Equal(a.Data, b.Data) && a.N == b.N
}

// wantResult demands that a result is this one; its ticket, too.
func wantResult(t *testing.T, what string, got, want queue.Result) {
	t.Helper()
	if got.Ticket != want.Ticket || !isSame(got, want) {
		t.Fatalf("%s: %v, not %v", what, got, want)
	}
}

// samples are a request of each kind, with numbers that let none be refused in the scene; the steps of devices are refused if they do not come one by one.
func samples() []queue.Request {
	return []queue.Request{
		creates(4, 9), snapshots(5, 2), removes(3), resizes(1, 30), reads(1, 0, 4), writes(1, 4, 71, 72), discards(1, 6, 2), flushes(),
		adds(2), grows(1), evacuates(0), moves(), cancels(),
	}
}

// TestP20Example is the chapter's.
func TestP20Example(t *testing.T) {
	w := scene(t)
	w.submit(writes(1, 1, 77), reads(1, 1, 1), reads(1, 2, 1))
	w.wantReady(1, 3)
	w.wantWaiting(1, 2, 3)
	wantResult(t, "Step", w.step(1, 3), queue.Result{Ticket: 3, Data: of(12)})
	w.wantReady(1)
	w.wantWaiting(1, 2)
	wantResult(t, "Step", w.step(0, 1), queue.Result{Ticket: 1})
	w.wantReady(2)
	w.wantWaiting(2)
	wantResult(t, "Step", w.step(0, 2), queue.Result{Ticket: 2, Data: of(77)})
	w.wantIdle()
}

func TestP20_1New(t *testing.T) {
	w := scene(t)
	before := w.tells()
	w.q = queue.New(w.p)
	other := queue.New(w.p)
	w.wantIdle()
	if list := w.done(); len(list) > 0 {
		t.Fatalf("Results: %v", list)
	}
	wantSame(t, "New", w.tells(), before)
	// Two queues of one pool number their requests each on its own.
	w.submit(reads(1, 0, 1), reads(1, 1, 1))
	if ticket, err := other.Submit(reads(1, 0, 1)); ticket != 1 || err != nil {
		t.Fatalf("Submit: %d, %v", ticket, err)
	}
}

// TestP20_1Submit submits a request of each kind: nothing is done by that.
func TestP20_1Submit(t *testing.T) {
	w := scene(t)
	before := w.tells()
	var all []int
	for i, r := range samples() {
		ticket, err := w.q.Submit(r)
		if ticket != i+1 || err != nil {
			t.Fatalf("Submit(%v): %d, %v", r, ticket, err)
		}
		all = append(all, ticket)
		w.wantWaiting(all...)
		w.wantReady(1)
		if list := w.done(); len(list) > 0 {
			t.Fatalf("Results: %v", list)
		}
	}
	wantSame(t, "Submit", w.tells(), before)
}

// TestP20_1NoKind submits requests of kinds that are none, between others: no ticket is used up, and nothing waits for them.
func TestP20_1NoKind(t *testing.T) {
	w := scene(t)
	refuse := func() {
		t.Helper()
		waiting, ready := w.q.Waiting(), w.q.Ready()
		for _, kind := range edges {
			if kind >= 1 && kind <= 13 {
				continue
			}
			for _, r := range []queue.Request{{}, reads(1, 0, 1), writes(1, 0, 5), creates(9, 9), {Id: -1, Block: -1, N: -1}} {
				r.Kind = kind
				ticket, err := w.q.Submit(r)
				wantCode(t, "Submit", err, api.ErrLine)
				if ticket != 0 {
					t.Fatalf("Submit(%v): %d beside an error", r, ticket)
				}
			}
		}
		w.wantWaiting(waiting...)
		w.wantReady(ready...)
	}
	refuse()
	w.wantIdle()
	for _, r := range samples() {
		w.submit(r)
		refuse()
	}
	for range samples() {
		w.q.Step(0)
		refuse()
	}
	if got := w.done(); !slices.Equal(got, span(1, 13)) {
		t.Fatalf("Results: %v", got)
	}
	w.submit(flushes())
}

// TestP20_1Tickets demands that tickets go on where they were, whatever was done and in which order.
func TestP20_1Tickets(t *testing.T) {
	w := scene(t)
	w.submit(reads(1, 0, 1), reads(1, 1, 1), reads(1, 2, 1))
	w.step(-1, 3)
	if ticket, err := w.q.Submit(reads(1, 3, 1)); ticket != 4 || err != nil {
		t.Fatalf("Submit: %d, %v", ticket, err)
	}
	w.step(0, 1)
	w.step(1, 4)
	w.step(0, 2)
	w.wantIdle()
	if ticket, err := w.q.Submit(reads(1, 3, 1)); ticket != 5 || err != nil {
		t.Fatalf("Submit: %d, %v", ticket, err)
	}
	w.wantWaiting(5)
	w.wantReady(5)
	w.q.Drain()
	if ticket, err := w.q.Submit(reads(9, 9, 9)); ticket != 6 || err != nil {
		t.Fatalf("Submit: %d, %v", ticket, err)
	}
}

// TestP20_1Between asks for Ready and Waiting ahead of, between and behind steps.
func TestP20_1Between(t *testing.T) {
	w := scene(t)
	w.submit(
		writes(1, 0, 31, 32), reads(1, 1, 1), reads(2, 0, 1), moves(), flushes(),
		reads(1, 8, 1), removes(2), reads(2, 0, 1), writes(1, 0, 33),
	)
	w.wantReady(1, 3, 4, 6)
	w.wantWaiting(span(1, 9)...)
	w.step(1, 3)
	w.wantReady(1, 4, 6)
	w.wantWaiting(1, 2, 4, 5, 6, 7, 8, 9)
	w.step(0, 1)
	w.wantReady(2, 4, 6)
	w.step(1, 4)
	w.wantReady(2, 5, 6)
	w.step(2, 6)
	w.wantReady(2, 5)
	w.step(1, 5)
	w.wantReady(2)
	w.wantWaiting(2, 7, 8, 9)
	w.step(0, 2)
	w.wantReady(7)
	w.step(0, 7)
	w.wantReady(8, 9)
	w.step(1, 9)
	w.wantReady(8)
	// One more comes while another one waits.
	if ticket, err := w.q.Submit(evacuates(0)); ticket != 10 || err != nil {
		t.Fatalf("Submit: %d, %v", ticket, err)
	}
	w.wantReady(8, 10)
	w.wantWaiting(8, 10)
	w.step(0, 8)
	w.wantWaiting(10)
	w.step(0, 10)
	w.wantIdle()
}
