package queue_test

import (
	"reflect"
	"slices"
	"testing"

	"portage/queue"
)

// overwrite lays something over all of a list, its spare room too, and appends to it.
func overwrite[T any](list []T, with T) {
	whole := list[:cap(list)]
	for i := range whole {
		whole[i] = with
	}
	_ = append(list, with)
	_ = append(whole, with)
}

// spoil writes over a result's Data.
func spoil(x queue.Result) { overwrite(x.Data, 238) }

// spoilAll writes over results, and over the Data of each.
func spoilAll(list []queue.Result) {
	for _, x := range list {
		spoil(x)
	}
	overwrite(list, queue.Result{Ticket: -7, Data: []byte{7}, N: -7})
}

// copied are the same results in memory of their own.
func copied(list []queue.Result) []queue.Result {
	list = slices.Clone(list)
	for i := range list {
		list[i].Data = slices.Clone(list[i].Data)
	}
	return list
}

// busy is a queue with requests of which some were done, with Data and without.
func busy(t *testing.T) *world {
	t.Helper()
	w := scene(t)
	w.submit(
		reads(1, 0, 3), reads(2, 0, 8), writes(1, 0, 61), reads(9, 0, 1), reads(1, 0, 1), evacuates(0), moves(), reads(2, 1, 1), writes(2, 1, 62), reads(2, 1, 1),
	)
	w.step(0, 1)
	w.step(0, 2)
	w.step(1, 4)
	w.step(1, 6)
	w.step(1, 7)
	w.step(1, 8)
	return w
}

// TestP20_5HandedIn writes over Data behind Submit, its spare room too, and behind the step: what is done is what was submitted.
func TestP20_5HandedIn(t *testing.T) {
	for _, size := range []int{1, 2, 8} {
		w := scene(t)
		long := append(of(span(50, size)...), 1, 2, 3, 4, 5)
		data := long[:size*128]
		was := slices.Clone(long)
		for i := range 3 {
			w.submit(lays(1, i, data))
			if !slices.Equal(long, was) {
				t.Fatal("Submit changes what it is handed")
			}
			overwrite(data, byte(i))
			copy(long, was)
		}
		overwrite(long, 239)
		spoiled := slices.Clone(long)
		for i := range 3 {
			w.step(0, i+1)
			if !slices.Equal(long, spoiled) {
				t.Fatal("Step changes what Submit was handed")
			}
			got, err := w.p.Read(1, i, size)
			must(t, "Read", err)
			if !slices.Equal(got, of(span(50, size)...)) {
				t.Fatalf("what was submitted is not what is written")
			}
			overwrite(long, 239)
		}
		w.submit(reads(1, 2, size))
		if x := w.step(0, 4); !slices.Equal(x.Data, of(span(50, size)...)) {
			t.Fatalf("what was submitted is not what was written")
		}
	}
}

// TestP20_5HandedInWrong hands in Data of kinds that have none, of requests that are refused, and of no kind.
func TestP20_5HandedInWrong(t *testing.T) {
	for kind := -1; kind <= 15; kind++ {
		for _, size := range []int{0, 1, 127, 192, 1153} {
			w := scene(t)
			long := append(of(span(1, 10)...), 1, 2, 3)
			was := slices.Clone(long)
			r := queue.Request{Kind: kind, Id: 1, N: 1, Data: long[:size]}
			before := r
			w.q.Submit(r)
			w.q.Drain()
			if !slices.Equal(long, was) || !reflect.DeepEqual(r, before) {
				t.Fatalf("a request of the kind %d is changed", kind)
			}
		}
	}
}

// TestP20_5Length demands that a Write has as many bytes as were submitted, though the list is cut or goes on.
func TestP20_5Length(t *testing.T) {
	w := scene(t)
	data := make([]byte, 0, 1024)
	data = append(data, of(5, 6)...)
	r := lays(1, 0, data)
	w.submit(r)
	data = append(data, of(7, 8)...)
	r.Data, r.Id, r.Block, r.Kind = data[:100], 2, 9, discard
	if x := w.step(0, 1); x.Err != nil {
		t.Fatalf("Write: %v", x)
	}
	got, err := w.p.Read(1, 0, 3)
	must(t, "Read", err)
	if !slices.Equal(got, of(5, 6, 12)) {
		t.Fatal("Write has other bytes than were submitted")
	}
}

// TestP20_5Picks demands that Drain does not change its picks, nor their spare room.
func TestP20_5Picks(t *testing.T) {
	w := busy(t)
	long := []int{5, -3, 7, 11, 2, 9, 8, 1, 4}
	was := slices.Clone(long)
	w.q.Drain(long[:3]...)
	if !slices.Equal(long, was) {
		t.Fatalf("the picks are %v, and were %v", long, was)
	}
}

// TestP20_5Tickets writes over what Ready and Waiting tell.
func TestP20_5Tickets(t *testing.T) {
	w := busy(t)
	for len(w.q.Waiting()) > 0 {
		ready, waiting := w.q.Ready(), w.q.Waiting()
		wasReady, wasWaiting := slices.Clone(ready), slices.Clone(waiting)
		for _, ask := range []func() []int{w.q.Ready, w.q.Waiting} {
			overwrite(ask(), -77)
			w.wantReady(wasReady...)
			w.wantWaiting(wasWaiting...)
		}
		overwrite(ready, -77)
		if !slices.Equal(waiting, wasWaiting) {
			t.Fatal("two lists share memory")
		}
		if x, err := w.q.Step(-1); err != nil || x.Ticket != wasReady[len(wasReady)-1] {
			t.Fatalf("Step: %v, %v", x, err)
		}
		if !slices.Equal(waiting, wasWaiting) {
			t.Fatal("what was told changes")
		}
	}
}

// TestP20_5Results writes over all that is told of results: nothing that is told later changes, nor what the volumes have.
func TestP20_5Results(t *testing.T) {
	w := busy(t)
	want, volumes := copied(w.q.Results()), w.volumes()
	if len(want) != 6 || len(want[1].Data) != 1024 {
		t.Fatalf("Results: %v", want)
	}
	for range 2 {
		spoilAll(w.q.Results())
		w.wantResults(want)
		for _, x := range want {
			one, err := w.q.Result(x.Ticket)
			must(t, "Result", err)
			other, err := w.q.Result(x.Ticket)
			must(t, "Result", err)
			all := w.q.Results()
			spoil(one)
			wantResult(t, "Result", other, x)
			if !slices.EqualFunc(all, want, isSame) {
				t.Fatal("Result and Results share memory")
			}
			spoil(other)
			w.wantResults(want)
		}
		// Each of two answers, and each Data of one.
		first, second := w.q.Results(), w.q.Results()
		for i := range first {
			spoil(first[i])
			if !slices.EqualFunc(first[i+1:], want[i+1:], isSame) || !slices.EqualFunc(second, want, isSame) {
				t.Fatal("results share memory")
			}
		}
		spoilAll(first)
		if !slices.EqualFunc(second, want, isSame) {
			t.Fatal("two answers of Results share memory")
		}
	}
	if !reflect.DeepEqual(w.volumes(), volumes) {
		t.Fatal("the volumes change")
	}
}

// TestP20_5Steps writes over what Step and Drain tell, at once: what is told of it later, and what other requests read, does not change.
func TestP20_5Steps(t *testing.T) {
	w, other := busy(t), busy(t)
	for range 2 {
		x, err := w.q.Step(0)
		must(t, "Step", err)
		spoil(x)
		other.q.Step(0)
		w.wantResults(other.q.Results())
	}
	for _, one := range []*world{w, other} {
		for range 2 {
			one.submit(reads(2, 0, 8), reads(1, 0, 8))
		}
	}
	list, want := w.q.Drain(), copied(other.q.Drain())
	for i := range list {
		spoil(list[i])
		if !slices.EqualFunc(list[i+1:], want[i+1:], isSame) {
			t.Fatal("two results of one Drain share memory")
		}
	}
	spoilAll(list)
	w.wantResults(other.q.Results())
	wantSame(t, "Drain", w.tells(), other.tells())
}

// TestP20_5ToldStays demands that what was told is not changed by what comes later.
func TestP20_5ToldStays(t *testing.T) {
	w := busy(t)
	var told, was [][]queue.Result
	keep := func(list []queue.Result) {
		told, was = append(told, list), append(was, copied(list))
	}
	keep(w.q.Results())
	for len(w.q.Waiting()) > 0 {
		x, err := w.q.Step(0)
		must(t, "Step", err)
		keep([]queue.Result{x})
		keep(w.q.Results())
	}
	w.submit(writes(1, 0, span(81, 8)...), writes(2, 0, span(91, 8)...), reads(1, 0, 8), removes(1), flushes(), moves(), moves())
	keep(w.q.Drain())
	w.submit(removes(2))
	keep(w.q.Drain())
	if !reflect.DeepEqual(told, was) {
		t.Fatal("what was told changes")
	}
}
