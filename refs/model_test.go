package refs_test

import (
	"maps"
	"math"
	"slices"
	"testing"

	"portage/api"
	"portage/refs"
)

// model is a reverse map as the chapter's words put it: what each owner names, and named at Begin.
type model struct {
	of, atBegin map[refs.Owner]int
}

func newModel() *model { return &model{of: map[refs.Owner]int{}} }

// before is whether an owner stands ahead of another one.
func before(a, b refs.Owner) bool { return a.Vol < b.Vol || a.Vol == b.Vol && a.Block < b.Block }

// inOrder are owners, each laid in its place.
func inOrder(owners map[refs.Owner]int) []refs.Owner {
	var list []refs.Owner
	for o := range owners {
		place := 0
		for place < len(list) && before(list[place], o) {
			place++
		}
		list = slices.Insert(list, place, o)
	}
	return list
}

// order are the owners that name something, in order.
func (m *model) order() []refs.Owner { return inOrder(m.of) }

// put is the chapter's sentence about Put.
func (m *model) put(o refs.Owner, addr int) api.Code {
	switch {
	case addr < 0:
		return api.ErrOwner
	case addr == 0:
		delete(m.of, o)
	default:
		m.of[o] = addr
	}
	return 0
}

// changes are the owners that name something else than at Begin.
func (m *model) changes() []refs.Change {
	all := maps.Clone(m.of)
	maps.Copy(all, m.atBegin)
	var list []refs.Change
	for _, o := range inOrder(all) {
		if m.of[o] != m.atBegin[o] {
			list = append(list, refs.Change{Owner: o, From: m.atBegin[o], To: m.of[o]})
		}
	}
	return list
}

// call is a call that changes a reverse map, with what it is handed.
type call struct {
	name  string
	owner refs.Owner
	addr  int
}

// do is what the reverse map answers to a call.
func (c call) do(r *refs.Refs) ([]refs.Change, error) {
	switch c.name {
	case "Put":
		return nil, r.Put(c.owner, c.addr)
	case "Begin":
		return nil, r.Begin()
	case "Commit":
		return r.Commit()
	case "Back":
		return nil, r.Back()
	}
	panic(c.name)
}

// answer does a call to the model, and is what it answers.
func (m *model) answer(c call) (list []refs.Change, code api.Code) {
	if c.name == "Put" {
		return nil, m.put(c.owner, c.addr)
	}
	if (m.atBegin != nil) == (c.name == "Begin") {
		return nil, api.ErrBusy
	}
	switch c.name {
	case "Begin":
		m.atBegin = maps.Clone(m.of)
	case "Commit":
		list, m.atBegin = m.changes(), nil
	case "Back":
		m.of, m.atBegin = m.atBegin, nil
	}
	return list, 0
}

// wantLike demands that a reverse map answers a call as the chapter's words do.
func wantLike(t *testing.T, r *refs.Refs, m *model, c call) {
	t.Helper()
	list, err := c.do(r)
	want, code := m.answer(c)
	if code != 0 {
		wantCode(t, c.name, err, code)
	} else {
		must(t, c.name, err)
	}
	if !slices.Equal(list, want) {
		t.Fatalf("%v: %v, not %v", c, list, want)
	}
}

// wantAll demands that all that a reverse map tells is as the chapter's words put it.
func wantAll(t *testing.T, r *refs.Refs, m *model) {
	t.Helper()
	owners, volumes := map[int][]refs.Owner{}, map[int][]refs.Owner{}
	for _, o := range m.order() {
		wantOf(t, r, o, m.of[o])
		owners[m.of[o]] = append(owners[m.of[o]], o)
		volumes[o.Vol] = append(volumes[o.Vol], o)
		// Its neighbours name what they do, or nothing.
		for _, near := range []refs.Owner{own(o.Block, o.Vol), own(o.Vol, o.Block+1), own(o.Vol+1, o.Block), own(o.Vol-1, o.Block)} {
			wantOf(t, r, near, m.of[near])
		}
	}
	for _, addr := range append([]int{0, 1, 2, 3, 4, 7, 8, 9, 10, math.MaxInt}, below...) {
		wantOwners(t, r, addr, owners[addr]...)
	}
	for addr, list := range owners {
		wantOwners(t, r, addr, list...)
	}
	for _, vol := range append([]int{3, 4, 5, 9}, edges...) {
		wantVolume(t, r, vol, volumes[vol]...)
	}
	for vol, list := range volumes {
		wantVolume(t, r, vol, list...)
	}
	wantAddrs(t, r, slices.Sorted(maps.Keys(owners))...)
	wantLen(t, r, len(m.of))
}

// several is a reverse map with an address that one names, and some that several do; and the model of it.
func several(t *testing.T) (*refs.Refs, *model) {
	t.Helper()
	r, m := refs.New(), newModel()
	for _, p := range []pair{
		{own(3, 4), 4},
		{own(2, 0), 9},
		{own(1, 5), 9},
		{own(1, 0), 9},
		{own(-3, -4), 8},
		{own(2, 9), math.MaxInt},
		{own(4, 4), math.MaxInt},
	} {
		wantLike(t, r, m, call{name: "Put", owner: p.owner, addr: p.addr})
	}
	wantAll(t, r, m)
	return r, m
}

// TestP9Small lets reverse maps go through all sequences of a few calls, behind some that bring them to where the chapter tells cases apart, and holds all that they answer against the chapter's words.
func TestP9Small(t *testing.T) {
	first, second := own(1, 1), own(1, 0)
	begin := call{name: "Begin"}
	one := call{name: "Put", owner: first, addr: 3}
	calls := []call{
		begin, one, {name: "Commit"}, {name: "Back"},
		{name: "Put", owner: first, addr: 2},
		{name: "Put", owner: first},
		{name: "Put", owner: second, addr: 3},
		{name: "Put", owner: second, addr: -1},
	}
	for _, ahead := range [][]call{nil, {begin}, {one, begin}, {one, begin, {name: "Put", owner: first}}} {
		for length, count := 1, len(calls); length <= 4; length, count = length+1, count*len(calls) {
			for sequence := range count {
				r, m := refs.New(), newModel()
				for _, c := range ahead {
					wantLike(t, r, m, c)
				}
				for range length {
					wantLike(t, r, m, calls[sequence%len(calls)])
					sequence /= len(calls)
				}
				wantAll(t, r, m)
			}
		}
	}
}

// numbers tells numbers in an order that is always the same, and looks like none.
type numbers uint64

func (n *numbers) below(limit int) int {
	*n = *n*6364136223846793005 + 1442695040888963407
	return int(uint64(*n)>>33) % limit
}

// call is some call, most often a Put of one of few owners and addresses.
func (n *numbers) call() call {
	c := call{name: "Put", owner: own(n.below(4)-1, n.below(4)-1), addr: n.below(6)}
	switch n.below(24) {
	case 0, 1:
		c.name = "Begin"
	case 2:
		c.name = "Commit"
	case 3:
		c.name = "Back"
	case 4:
		c.addr = below[n.below(len(below))]
	case 5:
		c.addr = math.MaxInt - n.below(2)
	case 6:
		c.owner = own(edges[n.below(len(edges))], edges[n.below(len(edges))])
	}
	return c
}

// TestP9Long lets reverse maps go through many calls, and holds all that they tell against the chapter's words behind each.
func TestP9Long(t *testing.T) {
	for run := range 60 {
		next := numbers(run)
		r, m := refs.New(), newModel()
		for range 400 {
			wantLike(t, r, m, next.call())
			wantAll(t, r, m)
		}
	}
}
