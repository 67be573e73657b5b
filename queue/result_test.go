package queue_test

import (
	"reflect"
	"testing"

	"portage/api"
	"portage/queue"
)

// wantNone demands that there are no results of these tickets.
func (w *world) wantNone(list ...int) {
	w.Helper()
	for _, ticket := range list {
		x, err := w.q.Result(ticket)
		wantCode(w.T, "Result", err, api.ErrTicket)
		if !reflect.DeepEqual(x, queue.Result{}) {
			w.Fatalf("Result(%d): %v beside an error", ticket, x)
		}
	}
}

// wantResults demands that just these results are told, of each ticket and of all.
func (w *world) wantResults(want []queue.Result) {
	w.Helper()
	all := w.q.Results()
	if len(all) != len(want) {
		w.Fatalf("Results: %v, not %v", tickets(all), tickets(want))
	}
	for i := range want {
		wantResult(w.T, "Results", all[i], want[i])
		x, err := w.q.Result(want[i].Ticket)
		must(w.T, "Result", err)
		wantResult(w.T, "Result", x, want[i])
	}
}

// TestP20_3Never asks for results of tickets that were never told.
func TestP20_3Never(t *testing.T) {
	w := scene(t)
	w.wantNone(edges...)
	w.submit(samples()...)
	w.wantNone(edges...)
	w.q.Drain()
	for _, ticket := range edges {
		if ticket < 1 || ticket > 13 {
			w.wantNone(ticket)
		}
	}
}

// TestP20_3Results asks for all results ahead of, between and behind steps, again and again.
func TestP20_3Results(t *testing.T) {
	w, other := twins(t)
	list := []queue.Request{
		writes(1, 0, 41), reads(1, 0, 2), reads(9, 0, 1), evacuates(0), reads(2, 7, 2), moves(), discards(2, 1, 3), flushes(), reads(2, 0, 8), removes(7),
	}
	w.submit(list...)
	want := make([]queue.Result, len(list)+1)
	for _, pick := range []int{-1, 2, 1, 0, 5, -1, 3, 0, 0, 9, 4} {
		var done []queue.Result
		for ticket := 1; ticket <= len(list); ticket++ {
			if want[ticket].Ticket != 0 {
				done = append(done, want[ticket])
			} else {
				w.wantNone(ticket)
			}
		}
		for range 3 {
			w.wantResults(done)
		}
		w.wantNone(-1, 0, len(list)+1)
		if len(done) == len(list) {
			break
		}
		x, err := w.q.Step(pick)
		must(t, "Step", err)
		want[x.Ticket] = direct(other.p, list[x.Ticket-1])
		want[x.Ticket].Ticket = x.Ticket
		wantResult(t, "Step", x, want[x.Ticket])
	}
	if len(w.q.Waiting()) > 0 {
		t.Fatalf("Waiting: %v", w.q.Waiting())
	}
	wantSame(t, "Results", w.tells(), other.tells())
	// A later request changes no result, though it changes what was read.
	w.submit(writes(2, 0, 91, 92, 93))
	w.q.Drain()
	w.wantResults(append(want[1:], queue.Result{Ticket: len(list) + 1}))
}

// TestP20_3Rising lets requests be done from the last one on.
func TestP20_3Rising(t *testing.T) {
	w := scene(t)
	var want []queue.Result
	for i := range 40 {
		w.submit(reads(1, i%18, 1+i%2))
		data, err := w.p.Read(1, i%18, 1+i%2)
		must(t, "Read", err)
		want = append(want, queue.Result{Ticket: i + 1, Data: data})
	}
	for i := range want {
		w.wantResults(want[len(want)-i:])
		w.wantNone(len(want) - i)
		w.step(-1, len(want)-i)
	}
	w.wantResults(want)
}
