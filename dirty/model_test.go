package dirty_test

import (
	"fmt"
	"maps"
	"math"
	"slices"
	"testing"

	"portage/dirty"
)

// model is a log as the chapter's words put it: its entries by their From.
type model struct {
	entries map[int]dirty.Entry
	spoilt  int
}

func newModel() *model { return &model{entries: map[int]dirty.Entry{}} }

// list are all entries, by rising From.
func (m *model) list() []dirty.Entry {
	var list []dirty.Entry
	for _, from := range slices.Sorted(maps.Keys(m.entries)) {
		list = append(list, m.entries[from])
	}
	return list
}

// add is whether the entry may be there; then it is.
func (m *model) add(from, to int) bool {
	if from < 1 || to < 1 || from == to {
		return false
	}
	for _, e := range m.entries {
		for _, addr := range []int{from, to} {
			if addr == e.From || addr == e.To {
				return false
			}
		}
	}
	m.entries[from] = dirty.Entry{From: from, To: to, State: dirty.Planned}
	return true
}

// turn is whether the entry may have the state; then it has.
func (m *model) turn(from, state int) bool {
	e, is := m.entries[from]
	ways := [][2]int{{dirty.Planned, dirty.Read}, {dirty.Read, dirty.Copied}}
	if !is || !slices.Contains(ways, [2]int{e.State, state}) {
		return false
	}
	e.State = state
	m.entries[from] = e
	return true
}

func (m *model) wrote(addr int) (int, bool) {
	e, is := m.entries[addr]
	if is && e.State == dirty.Copied {
		return e.To, true
	}
	if is && e.State == dirty.Read {
		e.State = dirty.Planned
		m.entries[addr] = e
		m.spoilt++
	}
	return 0, false
}

func (m *model) gone(addr int) (int, bool) {
	e, is := m.entries[addr]
	delete(m.entries, addr)
	return e.To, is
}

// deed is a call that may change a log.
type deed int

const (
	add deed = iota
	turn
	wrote
	gone
	clearAll
)

// call is a deed with its arguments, as many of them as it has.
type call struct {
	deed          deed
	first, second int
}

// wantLike does a call to the log and to the model, and demands that both answer it alike.
func (w world) wantLike(m *model, c call) {
	w.Helper()
	switch c.deed {
	case add:
		w.wantTaken(c, w.Add(c.first, c.second), m.add(c.first, c.second))
	case turn:
		w.wantTaken(c, w.Turn(c.first, c.second), m.turn(c.first, c.second))
	case wrote:
		mirror, is := m.wrote(c.first)
		w.wantWrote(c.first, mirror, is)
	case gone:
		to, is := m.gone(c.first)
		w.wantGone(c.first, to, is)
	case clearAll:
		want := m.list()
		clear(m.entries)
		if got := w.Clear(); !slices.Equal(got, want) {
			w.Fatalf("Clear: %v, not %v", got, want)
		}
	}
}

// wantTaken demands that a call was taken or refused.
func (w world) wantTaken(c call, err error, taken bool) {
	w.Helper()
	if !taken {
		w.wantError("a call", err)
	} else if err != nil {
		w.Fatalf("%v: %v", c, err)
	}
}

// wantAll demands that all that the log tells is as the chapter's words put it.
func (w world) wantAll(m *model, addrs ...int) {
	w.Helper()
	w.wantEntries(m.list()...)
	w.wantSpoilt(m.spoilt)
	for _, addr := range addrs {
		e, is := m.entries[addr]
		w.wantFind(addr, e, is)
	}
}

// allCalls are all calls with these addresses, and with all states and numbers beside them.
func allCalls(addrs []int) []call {
	list := []call{{deed: clearAll}}
	for _, addr := range addrs {
		list = append(list, call{wrote, addr, 0}, call{gone, addr, 0})
		for _, other := range addrs {
			list = append(list, call{add, addr, other})
		}
		for state := dirty.Planned - 1; state <= dirty.Copied+1; state++ {
			list = append(list, call{turn, addr, state})
		}
	}
	return list
}

// replay is a log, and a model, behind some calls.
func replay(t *testing.T, calls []call) (world, *model) {
	t.Helper()
	w, m := newWorld(t), newModel()
	for _, c := range calls {
		w.wantLike(m, c)
	}
	return w, m
}

// TestP16AllStates brings logs to each choice of entries that six addresses allow, does each call there, and holds all that they answer against the chapter's words.
func TestP16AllStates(t *testing.T) {
	addrs := []int{0, 1, 2, 3, 4, 5, 6, 7}
	var calls []call
	for _, c := range allCalls(addrs) {
		if c.first != 7 && (c.deed != add || c.second != 7) {
			calls = append(calls, c)
		}
	}
	seen := map[string]bool{"[]": true}
	for queue := [][]call{nil}; len(queue) > 0; queue = queue[1:] {
		w, m := replay(t, queue[0])
		for _, c := range calls {
			entries, spoilt := m.list(), m.spoilt
			w.wantLike(m, c)
			w.wantAll(m, addrs...)
			if m.spoilt == spoilt && slices.Equal(m.list(), entries) {
				// The log is to be as it was, and the next call is done to this very one.
				continue
			}
			if key := fmt.Sprint(m.list()); !seen[key] {
				seen[key] = true
				queue = append(queue, append(slices.Clone(queue[0]), c))
			}
			w, m = replay(t, queue[0])
		}
	}
	// None, one, two and three entries, each in three states.
	if want := 1 + 30*3 + 180*9 + 120*27; len(seen) != want {
		t.Fatalf("%d choices of entries, not %d", len(seen), want)
	}
}

// TestP16Small lets logs go through all sequences of a few calls, and holds all that they answer against the chapter's words.
func TestP16Small(t *testing.T) {
	calls := []call{
		{add, 1, 2}, {add, 2, 1}, {add, 3, 4}, {add, 4, 2}, {add, 5, 5},
		{turn, 1, dirty.Read}, {turn, 1, dirty.Copied}, {turn, 3, dirty.Read}, {turn, 3, dirty.Copied}, {turn, 1, dirty.Planned},
		{wrote, 1, 0}, {wrote, 3, 0}, {wrote, 2, 0},
		{gone, 1, 0}, {gone, 3, 0}, {clearAll, 0, 0},
	}
	const depth = 4
	sequence := make([]call, depth)
	var from func(at int)
	from = func(at int) {
		if at < depth {
			for _, sequence[at] = range calls {
				from(at + 1)
			}
			return
		}
		w, m := newWorld(t), newModel()
		for _, c := range sequence {
			w.wantLike(m, c)
			w.wantAll(m, 0, 1, 2, 3, 4, 5)
		}
	}
	from(0)
}

// numbers tells numbers that look like any, the same ones each time.
type numbers struct{ state uint64 }

// below tells the next number, from 0 to below a limit.
func (n *numbers) below(limit int) int {
	n.state = n.state*6364136223846793005 + 1442695040888963407
	return int(n.state>>33) % limit
}

// address tells a number up to a limit, or, now and then, one of the greatest that there are, or one that is no address.
func (n *numbers) address(limit int) int {
	switch n.below(20) {
	case 0:
		return strangers[n.below(len(strangers))]
	case 1:
		return math.MaxInt - n.below(3)
	}
	return 1 + n.below(limit)
}

// call tells a call; growing, more of them add.
func (n *numbers) call(limit int, growing bool) call {
	adds := 2
	if growing {
		adds = 6
	}
	first, second := n.address(limit), n.address(limit)
	switch roll := n.below(16 + adds); {
	case roll < adds:
		return call{add, first, second}
	case roll < adds+9:
		return call{turn, first, n.below(5) - 1}
	case roll < adds+13:
		return call{wrote, first, 0}
	case roll < adds+15 || n.below(20) > 0:
		return call{gone, first, 0}
	}
	return call{clearAll, 0, 0}
}

// TestP16Long lets logs with many entries go through long sequences of calls, and holds all that they answer against the chapter's words.
func TestP16Long(t *testing.T) {
	for seed := range 12 {
		n := &numbers{state: uint64(seed)}
		limit := []int{6, 20, 80, 600}[seed%4]
		w, m := newWorld(t), newModel()
		for step := range 4000 {
			w.wantLike(m, n.call(limit, step/400%2 == 0))
			if step%11 == 0 {
				w.wantAll(m, strangers...)
			}
		}
		w.wantAll(m, strangers...)
		if m.spoilt == 0 {
			t.Fatalf("the seed %d spoils nothing", seed)
		}
	}
}
