package pages_test

import (
	"bytes"
	"maps"
	"reflect"
	"slices"
	"testing"

	"portage/api"
	"portage/bank"
	"portage/node"
	"portage/pages"
	"portage/roster"
	"portage/space"
)

// known is what a store knows, as the chapter's words put it: the nodes of its pages, and how often each was held or adopted, and not dropped.
type known struct {
	nodes map[int]node.Node
	held  map[int]int
}

// model is a store with a bank and a space of its own, to which all is done that is done to those of the store.
type model struct {
	known
	saved *known
	b     *bank.Bank
	s     *space.Space
}

func nothing() known { return known{nodes: map[int]node.Node{}, held: map[int]int{}} }

func (k known) clone() known { return known{nodes: maps.Clone(k.nodes), held: maps.Clone(k.held)} }

// names are the addresses that a node names, at each place.
func names(n node.Node) []int {
	if n.Level > 0 {
		return n.Vals
	}
	return nil
}

// holds is the chapter's sentence about holds: all pages are gone through for each.
func (k known) holds(addr int) int {
	count := k.held[addr]
	for _, n := range k.nodes {
		for _, val := range names(n) {
			if val == addr {
				count++
			}
		}
	}
	return count
}

// call is a call to a store, or something that is done to its bank or its space.
type call struct {
	name string
	addr int
	n    node.Node
}

// put is the chapter's sentence about Put.
func (m *model) put(n node.Node) (int, error) {
	if n.Check() != nil {
		return 0, api.ErrNode
	}
	for _, val := range names(n) {
		if _, is := m.nodes[val]; !is {
			return 0, api.ErrMissing
		}
	}
	for _, val := range names(n) {
		if m.nodes[val].Level != n.Level-1 {
			return 0, api.ErrNode
		}
	}
	addr, err := m.s.Take()
	if err != nil {
		return 0, err
	}
	device, sector := space.At(addr)
	if err := m.b.Write(device, sector, encoded(n)); err != nil {
		m.s.Give(addr)
		return 0, inPage(addr, err)
	}
	m.nodes[addr] = n
	return addr, nil
}

// gone is the chapter's sentence about what is gone: one page after the other of those that it named.
func (m *model) gone(addr int) {
	n := m.nodes[addr]
	delete(m.nodes, addr)
	delete(m.held, addr)
	m.s.Give(addr)
	for _, val := range names(n) {
		if _, is := m.nodes[val]; is && m.holds(val) == 0 {
			m.gone(val)
		}
	}
}

// drop and scrap are the chapter's sentences about pages that are there.
func (m *model) drop(addr int) error {
	if m.held[addr] == 0 {
		return api.ErrBusy
	}
	m.held[addr]--
	if m.holds(addr) == 0 {
		m.gone(addr)
	}
	return nil
}

func (m *model) scrap(addr int) error {
	if m.holds(addr) > 0 {
		return api.ErrBusy
	}
	m.gone(addr)
	return nil
}

// take is the chapter's sentence about trees that are taken from the devices; the addresses that it marks are noted.
func (m *model) take(addr int, marked *[]int) error {
	if _, is := m.nodes[addr]; is {
		return nil
	}
	device, sector := space.At(addr)
	data, err := m.b.Read(device, sector)
	if err != nil {
		return inPage(addr, err)
	}
	n, err := node.Parse(data)
	if err != nil {
		return inPage(addr, api.ErrNode)
	}
	if err := m.s.Mark(addr); err != nil {
		return err
	}
	*marked = append(*marked, addr)
	m.nodes[addr] = n
	for _, val := range names(n) {
		if err := m.take(val, marked); err != nil {
			return err
		}
	}
	for _, val := range names(n) {
		if m.nodes[val].Level != n.Level-1 {
			return api.ErrNode
		}
	}
	return nil
}

// adopt is the chapter's sentence about Adopt.
func (m *model) adopt(addr int) error {
	was := m.known.clone()
	var marked []int
	if err := m.take(addr, &marked); err != nil {
		m.known = was
		for _, at := range marked {
			m.s.Unmark(at)
		}
		return err
	}
	m.held[addr]++
	return nil
}

// endOrBegin is the chapter's sentences about Begin, Commit and Back; the space goes along.
func (m *model) endOrBegin(name string) error {
	if (m.saved != nil) == (name == "Begin") {
		return api.ErrBusy
	}
	switch name {
	case "Begin":
		was := m.known.clone()
		m.saved = &was
		return m.s.Begin()
	case "Commit":
		m.saved = nil
		return m.s.Commit()
	}
	m.known, m.saved = *m.saved, nil
	return m.s.Back()
}

// answer does a call to the model, and is what it answers.
func (m *model) answer(c call) (int, error) {
	switch c.name {
	case "Put":
		return m.put(c.n)
	case "Adopt":
		return 0, m.adopt(c.addr)
	case "Begin", "Commit", "Back":
		return 0, m.endOrBegin(c.name)
	case "Hold", "Drop", "Scrap":
		if _, is := m.nodes[c.addr]; !is {
			return 0, api.ErrMissing
		}
	}
	switch c.name {
	case "Hold":
		m.held[c.addr]++
	case "Drop":
		return 0, m.drop(c.addr)
	case "Scrap":
		return 0, m.scrap(c.addr)
	case "Renew":
		m.known, m.saved = nothing(), nil
		m.s, _ = space.New(m.s.Roster())
	default:
		c.happen(m.b, m.s)
	}
	return 0, nil
}

// happen does what is not done to a store, but to its bank or its space.
func (c call) happen(b *bank.Bank, s *space.Space) {
	device, sector := space.At(c.addr)
	switch c.name {
	case "Settle":
		s.Settle()
	case "Lay":
		b.Write(device, sector, encoded(c.n))
	case "Arm":
		b.Arm(c.addr)
	case "Crash":
		b.Crash(c.addr%3, c.addr%2, c.addr%5, 1, 1, 0, 1, c.addr%4, 1, 1, 1, 1)
	case "Bad":
		b.Bad(device, sector, true)
	case "Good":
		b.Bad(device, sector, false)
	case "Detach":
		b.Detach(device)
	default:
		panic(c.name)
	}
}

// do is what the store answers to a call.
func (w *world) do(c call) (int, error) {
	both := func(store, space func() error) error {
		err := store()
		if other := space(); !reflect.DeepEqual(other, err) {
			w.Fatalf("%s: %v, but the space: %v", c.name, err, other)
		}
		return err
	}
	switch c.name {
	case "Put":
		return w.p.Put(c.n)
	case "Adopt":
		return 0, w.p.Adopt(c.addr)
	case "Hold":
		return 0, w.p.Hold(c.addr)
	case "Drop":
		return 0, w.p.Drop(c.addr)
	case "Scrap":
		return 0, w.p.Scrap(c.addr)
	case "Begin":
		return 0, both(w.p.Begin, w.s.Begin)
	case "Commit":
		return 0, both(w.p.Commit, w.s.Commit)
	case "Back":
		return 0, both(w.p.Back, w.s.Back)
	case "Renew":
		w.s, _ = space.New(w.s.Roster())
		w.p = pages.New(w.b, w.s)
	default:
		c.happen(w.b, w.s)
	}
	return 0, nil
}

// wantLike demands that a store answers a call as the chapter's words do.
func (w *world) wantLike(m *model, c call) {
	w.Helper()
	addr, err := w.do(c)
	want, wantErr := m.answer(c)
	wantError(w.T, c.name, err, wantErr)
	if addr != want {
		w.Fatalf("%v: %d, not %d", c, addr, want)
	}
}

// wantTold demands that all that the store, the space and the bank tell is as the chapter's words put it.
func (w *world) wantTold(m *model) {
	w.Helper()
	x := told{Pages: slices.Sorted(maps.Keys(m.nodes)), Nodes: m.nodes, Holds: map[int]int{}, Held: map[int]int{}, Free: m.s.Free()}
	for addr := range m.nodes {
		x.Holds[addr] = m.holds(addr)
	}
	for device := range api.MaxDevices {
		x.On[device], x.Used[device] = m.s.On(device), m.s.Used(device)
	}
	wantSame(w.T, "told", w.tells(), x)
	if w.b.Done() != m.b.Done() || w.b.Down() != m.b.Down() || w.b.Pending() != m.b.Pending() {
		w.Fatalf("the bank: %d writes, down: %t, %d wait", w.b.Done(), w.b.Down(), w.b.Pending())
	}
	for device, size := range m.b.Sizes() {
		for sector := range size {
			data, err := w.b.Read(device, sector)
			want, wantErr := m.b.Read(device, sector)
			if !bytes.Equal(data, want) || !reflect.DeepEqual(err, wantErr) {
				w.Fatalf("at %d:%d stands %x, %v, not %x, %v", device, sector, data, err, want, wantErr)
			}
		}
	}
}

// wantHeld demands how often each page may be dropped, and what is fresh in the space. It is for a store in which nothing is begun.
func (w *world) wantHeld(m *model) {
	w.Helper()
	other := world{w.T, m.b, m.s, nil}
	x := w.all()
	for addr := range m.nodes {
		if x.Held[addr] != m.held[addr] {
			w.Fatalf("%d may be dropped %d times, not %d", addr, x.Held[addr], m.held[addr])
		}
	}
	if got, want := w.takes(), other.takes(); !slices.Equal(got, want) {
		w.Fatalf("what may be taken: %v, not %v", got, want)
	}
	must(w.T, "space.Begin", m.s.Begin())
	for _, addr := range slices.Concat(x.On[:]...) {
		if fresh := m.s.Unmark(addr) != nil; fresh != slices.Contains(x.Fresh, addr) {
			w.Fatalf("%d is fresh: %t", addr, !fresh)
		}
	}
	must(w.T, "space.Back", m.s.Back())
}

// modeled is a store over devices as a roster has them, and the model of it.
func modeled(t *testing.T, r roster.Roster) (*world, *model) {
	t.Helper()
	var sizes []int
	for _, e := range r.List {
		sizes = append(sizes, e.Size)
	}
	w, other := over(t, banked(t, sizes...), r), over(t, banked(t, sizes...), r)
	return w, &model{known: nothing(), b: other.b, s: other.s}
}

// TestP11Small lets a store go through all sequences of a few calls, behind some that bring it to where the chapter tells cases apart, and holds all that it answers against the chapter's words.
func TestP11Small(t *testing.T) {
	lay := func(addr int, n node.Node) call { return call{name: "Lay", addr: addr, n: n} }
	put := func(n node.Node) call { return call{name: "Put", n: n} }
	at := func(name string, addr int) call { return call{name: name, addr: addr} }
	calls := []call{
		put(leaf(1)), put(numbered(1, 2, 2)), put(numbered(2, 3)), at("Hold", 3), at("Drop", 3), at("Drop", 2), at("Scrap", 3), at("Scrap", 2), at("Adopt", 3), at("Adopt", 4),
		{name: "Begin"}, {name: "Commit"}, {name: "Back"}, {name: "Settle"},
	}
	tree := []call{put(leaf(1)), put(numbered(1, 2)), put(numbered(2, 3, 3))}
	for _, ahead := range [][]call{
		nil,
		tree,
		append(slices.Clone(tree), call{name: "Settle"}, call{name: "Begin"}),
		{lay(2, leaf(1)), lay(3, numbered(1, 2)), lay(4, numbered(2, 3)), {name: "Begin"}},
		{lay(2, leaf(1)), lay(3, numbered(1, 2)), lay(4, numbered(1, 2, 6)), lay(6, leaf(1)), at("Adopt", 3)},
		append(slices.Clone(tree), at("Hold", 4), at("Hold", 3), call{name: "Begin"}, at("Drop", 4)),
		append(slices.Clone(tree), at("Arm", 1)),
	} {
		for length, count := 1, len(calls); length <= 3; length, count = length+1, count*len(calls) {
			for sequence := range count {
				w, m := modeled(t, rostered(7))
				for _, c := range ahead {
					w.wantLike(m, c)
				}
				for range length {
					w.wantLike(m, calls[sequence%len(calls)])
					sequence /= len(calls)
				}
				w.wantTold(m)
				if m.saved == nil {
					w.wantHeld(m)
				}
			}
		}
	}
}

// numbers tells numbers in an order that is always the same, and looks like none.
type numbers uint64

func (n *numbers) below(limit int) int {
	*n = *n*6364136223846793005 + 1442695040888963407
	return int(uint64(*n)>>33) % limit
}

// standing are the nodes that stand on the devices, wherever they do.
func (m *model) standing() map[int]node.Node {
	nodes := map[int]node.Node{}
	for device, size := range m.b.Sizes() {
		for sector := range size {
			data, _ := m.b.Read(device, sector)
			if n, err := node.Parse(data); err == nil {
				nodes[space.Addr(device, sector)] = n
			}
		}
	}
	return nodes
}

// some is an address, most often one of these nodes, and then most often one of a high Level.
func (n *numbers) some(m *model, nodes map[int]node.Node) int {
	if list := slices.Sorted(maps.Keys(nodes)); len(list) > 0 && n.below(4) > 0 {
		first, second := list[n.below(len(list))], list[n.below(len(list))]
		if nodes[first].Level < nodes[second].Level {
			return second
		}
		return first
	}
	if n.below(30) == 0 {
		return nowhere[n.below(len(nowhere))]
	}
	list := m.s.Roster().List
	device := n.below(len(list))
	return space.Addr(device, n.below(list[device].Size+1))
}

// node is some node, most often one that names some of these nodes of the Level below it.
func (n *numbers) node(m *model, nodes map[int]node.Node) node.Node {
	level := n.below(8) / 2
	var fit []int
	for _, addr := range slices.Sorted(maps.Keys(nodes)) {
		if nodes[addr].Level == level-1 {
			fit = append(fit, addr)
		}
	}
	if level > 0 && len(fit) == 0 && n.below(4) > 0 {
		level = 0
	}
	x := node.Node{Level: level}
	for i := range 1 + n.below(4) {
		val := n.some(m, nodes)
		if len(fit) > 0 && n.below(16) > 0 {
			val = fit[n.below(len(fit))]
		}
		if level == 0 && n.below(20) > 0 {
			val = 1 + n.below(9)
		}
		x.Keys, x.Vals = append(x.Keys, 5*i), append(x.Vals, val)
	}
	if n.below(40) == 0 {
		x.Keys[0] = 5
	}
	return x
}

// call is some call.
func (n *numbers) call(m *model) call {
	list := []string{"Put", "Put", "Put", "Put", "Hold", "Hold", "Drop", "Drop", "Drop", "Scrap", "Scrap", "Adopt", "Adopt", "Adopt", "Adopt", "Lay", "Lay", "Begin", "Commit", "Back", "Settle"}
	c := call{name: list[n.below(len(list))]}
	rare := []string{"Renew", "Renew", "Renew", "Renew", "Arm", "Crash", "Crash", "Bad", "Good", "Good"}
	if i := n.below(8 * len(rare)); i < len(rare) {
		c.name = rare[i]
	} else if n.below(800) == 0 {
		c.name = "Detach"
	}
	nodes := m.nodes
	if c.name == "Lay" || c.name == "Adopt" {
		nodes = m.standing()
	}
	c.addr, c.n = n.some(m, nodes), n.node(m, nodes)
	switch c.name {
	case "Lay":
		c.addr = n.some(m, nil)
	case "Arm":
		c.addr = n.below(6)
	}
	return c
}

// TestP11Long lets stores go through many calls, with devices that come to harm, and holds all that they tell against the chapter's words behind each.
func TestP11Long(t *testing.T) {
	for run := range 300 {
		next := numbers(run)
		r := rostered(5+next.below(12), 5+next.below(12), 5+next.below(6))
		r.List = r.List[:1+run%3]
		if run%5 == 4 {
			r.List[run%len(r.List)].State = api.Draining
		}
		w, m := modeled(t, r)
		for range 200 {
			w.wantLike(m, next.call(m))
			w.wantTold(m)
			if m.saved == nil && next.below(8) == 0 {
				w.wantHeld(m)
			}
		}
	}
}
