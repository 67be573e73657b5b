package locks_test

import (
	"slices"
	"testing"

	"portage/api"
	"portage/locks"
)

// waiter is an entry as the chapter's words put it.
type waiter struct {
	number int
	spans  []locks.Span
}

// model is a table as the chapter's words put it; its spans name no blocks but those that blocks knows.
type model struct {
	list  []waiter
	given int
}

// isRight is the chapter's sentence about right spans.
func isRight(s locks.Span) bool {
	return s.Vol >= 0 && s.From >= 0 && 0 <= s.Len && s.Len <= maxLen
}

// clash is whether a span of one waiter and one of the other have a block in common, and one of these two writes.
func clash(a, b waiter) bool {
	for _, s := range a.spans {
		for _, o := range b.spans {
			if blocks(s)&blocks(o) != 0 && (s.Write || o.Write) {
				return true
			}
		}
	}
	return false
}

func (m *model) add(spans []locks.Span) (int, api.Code) {
	for _, s := range spans {
		if !isRight(s) {
			return 0, api.ErrRange
		}
	}
	m.given++
	m.list = append(m.list, waiter{m.given, slices.Clone(spans)})
	return m.given, 0
}

// ahead are the numbers that the waiter at a place waits for.
func (m *model) ahead(place int) []int {
	var numbers []int
	for _, other := range m.list[:place] {
		if clash(other, m.list[place]) {
			numbers = append(numbers, other.number)
		}
	}
	return numbers
}

func (m *model) done(number int) api.Code {
	for place, e := range m.list {
		if e.number != number {
			continue
		}
		if len(m.ahead(place)) > 0 {
			return api.ErrWait
		}
		m.list = append(slices.Clone(m.list[:place]), m.list[place+1:]...)
		return 0
	}
	return api.ErrTicket
}

// call is an Add of spans, or a Done of a number if that is not 0.
type call struct {
	number int
	spans  []locks.Span
}

// wantLike does a call to the table and to the model, and demands that both answer it alike.
func (w world) wantLike(m *model, c call) {
	w.Helper()
	var got, want int
	var err error
	var code api.Code
	if c.number != 0 {
		err, code = w.Done(c.number), m.done(c.number)
	} else {
		got, err = w.Add(c.spans...)
		want, code = m.add(c.spans)
	}
	if code != 0 {
		w.wantError("a call", err, code)
	} else if err != nil {
		w.Fatalf("%v: %v", c, err)
	}
	if got != want {
		w.Fatalf("%v: %d, not %d", c, got, want)
	}
}

// wantAll demands that all that the table tells is as the chapter's words put it.
func (w world) wantAll(m *model) {
	w.Helper()
	var waiting, ready []int
	for place, e := range m.list {
		ahead := m.ahead(place)
		waiting = append(waiting, e.number)
		if len(ahead) == 0 {
			ready = append(ready, e.number)
		}
		w.wantAhead(e.number, ahead...)
	}
	w.wantWaiting(waiting...)
	w.wantReady(ready...)
	for number := -1; number <= m.given+2; number++ {
		if !slices.Contains(waiting, number) && (w.May(number) || len(w.Ahead(number)) > 0) {
			w.Fatalf("the entry %d is gone: May: %v, Ahead: %v", number, w.May(number), w.Ahead(number))
		}
	}
}

// TestP15Small lets tables go through all sequences of a few calls, and holds all that they answer against the chapter's words.
func TestP15Small(t *testing.T) {
	calls := []call{
		{},
		{spans: []locks.Span{write(1, 0, 2)}},
		{spans: []locks.Span{read(1, 1, 2)}},
		{spans: []locks.Span{read(2, 3, 0), write(1, 2, 1)}},
		{spans: []locks.Span{read(0, 0, 0)}},
		{spans: []locks.Span{write(0, 0, 0)}},
		{spans: []locks.Span{write(1, 0, 1), read(1, 0, -1)}},
		{number: 1},
		{number: 2},
		{number: 3},
		{number: -1},
	}
	const depth = 4
	sequence := make([]call, depth)
	var try func(at int)
	try = func(at int) {
		if at < depth {
			for _, sequence[at] = range calls {
				try(at + 1)
			}
			return
		}
		w, m := newWorld(t), &model{}
		for _, c := range sequence {
			w.wantLike(m, c)
			w.wantAll(m)
		}
	}
	try(0)
}

// numbers tells numbers that look like any, the same ones each time.
type numbers struct{ state uint64 }

// below tells the next number, from 0 to below a limit.
func (n *numbers) below(limit int) int {
	n.state = n.state*6364136223846793005 + 1442695040888963407
	return int(n.state>>33) % limit
}

// span tells a span, one in ten of which is not right.
func (n *numbers) span() locks.Span {
	if n.below(10) == 0 {
		list := wrong()
		return list[n.below(len(list))]
	}
	list := small()
	return list[n.below(len(list))]
}

// TestP15Long lets tables with many entries go through long sequences of calls, now more that are added and now more that are done, and holds all that they answer against the chapter's words.
func TestP15Long(t *testing.T) {
	for seed := range 8 {
		n := &numbers{state: uint64(seed)}
		w, m := newWorld(t), &model{}
		for step := range 800 {
			adds := 7 - step/150%2*5
			if n.below(10) < adds {
				c := call{}
				for range n.below(4) {
					c.spans = append(c.spans, n.span())
				}
				w.wantLike(m, c)
			} else if number := n.below(m.given + 2); number > 0 && n.below(4) == 0 {
				w.wantLike(m, call{number: number})
			} else if len(m.list) > 0 {
				w.wantLike(m, call{number: m.list[n.below(len(m.list))].number})
			}
			if step%7 == 0 {
				w.wantAll(m)
			}
		}
		w.wantAll(m)
	}
}
