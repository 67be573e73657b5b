package pages_test

import (
	"slices"
	"testing"

	"portage/node"
)

// spare is what stands in the spare room of what is handed in, and must stay there; written is what is laid over it, and over answers.
const (
	spare   = -77
	written = -78
)

// roomyList is a list with spare room behind it.
func roomyList(list []int) []int {
	return append(slices.Clone(list), slices.Repeat([]int{spare}, 9)...)[:len(list)]
}

// roomy is a node whose lists have spare room behind them.
func roomy(n node.Node) node.Node {
	return node.Node{Level: n.Level, Keys: roomyList(n.Keys), Vals: roomyList(n.Vals)}
}

// whole is a list with all of its spare room.
func whole(list []int) []int { return list[:cap(list)] }

// overwrite lays written over all of a list, its spare room too, and appends it.
func overwrite(list []int) {
	_ = append(list, written)
	for i := range whole(list) {
		whole(list)[i] = written
	}
	_ = append(whole(list), written)
}

// spoil writes over a node's lists, their spare room too.
func spoil(n node.Node) {
	overwrite(n.Keys)
	overwrite(n.Vals)
}

// anyWritten tells whether something was laid in a list or its spare room.
func anyWritten(list []int) bool { return slices.Contains(whole(list), written) }

func TestP11_5HandedInIsNotChanged(t *testing.T) {
	nodes := append(notRight(), leaf(1), leaf(1, 2, 3, 4, 5, 6, 7), numbered(1, 2), numbered(1, 2, 6), numbered(1, 99), numbered(2, 2), numbered(3, 4, 8))
	for _, was := range nodes {
		w := leveled(t)
		n := roomy(was)
		keys, vals := slices.Clone(whole(n.Keys)), slices.Clone(whole(n.Vals))
		w.p.Put(n)
		w.begin()
		w.p.Put(n)
		w.back()
		if addr, err := w.p.Put(n); err == nil {
			w.hold(addr)
			w.drop(addr)
		}
		w.b.Arm(0)
		w.p.Put(n)
		if !equal(n, was) || !slices.Equal(whole(n.Keys), keys) || !slices.Equal(whole(n.Vals), vals) {
			t.Fatalf("what is handed in is changed: %v, %v, %v", n, whole(n.Keys), whole(n.Vals))
		}
	}
}

// TestP11_5HandedInIsNotKept writes over nodes behind Put, and wants the pages, what goes with them and what is taken back as if nobody had.
func TestP11_5HandedInIsNotKept(t *testing.T) {
	for _, begun := range []bool{false, true} {
		w := leveled(t)
		if begun {
			w.begin()
		}
		bottom, top := roomy(leaf(7, 8)), roomy(numbered(1, 10, 2, 10))
		w.put(10, bottom)
		spoil(bottom)
		w.put(11, top)
		spoil(top)
		w.wantGet(10, leaf(7, 8))
		w.wantGet(11, numbered(1, 10, 2, 10))
		w.wantHolds(holds{2: 3, 3: 2, 4: 2, 5: 1, 6: 0, 7: 0, 8: 0, 9: 0, 10: 2, 11: 0})
		if begun {
			w.commit()
		}
		w.begin()
		must(t, "Scrap", w.p.Scrap(11))
		w.wantHolds(holds{2: 2, 3: 2, 4: 2, 5: 1, 6: 0, 7: 0, 8: 0, 9: 0})
		w.back()
		w.wantGet(11, numbered(1, 10, 2, 10))
		w.wantHolds(holds{2: 3, 3: 2, 4: 2, 5: 1, 6: 0, 7: 0, 8: 0, 9: 0, 10: 2, 11: 0})
	}
}

// TestP11_5RefusedIsNotKept writes over nodes that were refused.
func TestP11_5RefusedIsNotKept(t *testing.T) {
	w := leveled(t)
	before := w.all()
	for _, n := range append(notRight(), numbered(1, 99), numbered(2, 2)) {
		n = roomy(n)
		if _, err := w.p.Put(n); err == nil {
			t.Fatalf("Put(%v) is not refused", n)
		}
		spoil(n)
		wantSame(t, "Put", w.all(), before)
	}
}

// spoilAll writes over all that a store tells, each told twice, and demands that neither the other answer nor the store is changed by it.
func spoilAll(t *testing.T, w *world) {
	t.Helper()
	before := w.tells()
	for _, addr := range before.Pages {
		first, err := w.p.Get(addr)
		must(t, "Get", err)
		second, err := w.p.Get(addr)
		must(t, "Get", err)
		overwrite(first.Keys)
		if !slices.Equal(first.Vals, before.Nodes[addr].Vals) || anyWritten(first.Vals) {
			t.Fatalf("the two lists of what Get tells share memory: %v", whole(first.Vals))
		}
		overwrite(first.Vals)
		if !equal(second, before.Nodes[addr]) || anyWritten(second.Keys) || anyWritten(second.Vals) {
			t.Fatalf("two answers of Get share memory: %v", second)
		}
		wantSame(t, "Get", w.tells(), before)
	}
	first, second := w.p.Pages(), w.p.Pages()
	overwrite(first)
	if !slices.Equal(second, before.Pages) || anyWritten(second) {
		t.Fatalf("two answers of Pages share memory: %v", second)
	}
	wantSame(t, "Pages", w.tells(), before)
}

func TestP11_5ToldIsNew(t *testing.T) {
	w := readied(t)
	before := w.all()
	spoilAll(t, w)
	w.begin()
	spoilAll(t, w)
	w.adopt(4105)
	w.drop(4102)
	must(t, "Scrap", w.p.Scrap(5))
	w.putAny(numbered(1, 6, 4100))
	spoilAll(t, w)
	w.back()
	wantSame(t, "Back", w.all(), before)
	spoilAll(t, w)
	w.adopt(4105)
	spoilAll(t, w)
	w.drop(4105)
	w.wantHolds(holds{2: 1, 3: 2, 4: 1, 5: 0, 6: 0, 4098: 3, 4099: 1, 4100: 0, 4101: 1, 4102: 1})
	spoilAll(t, made(t, 10))
}

// TestP11_5GetIsNoArgument puts what Get told once more, and writes over it.
func TestP11_5GetIsNoArgument(t *testing.T) {
	w := leveled(t)
	n, err := w.p.Get(3)
	must(t, "Get", err)
	w.put(10, n)
	spoil(n)
	w.wantGet(3, numbered(1, 2))
	w.wantGet(10, numbered(1, 2))
	other, err := w.p.Get(10)
	must(t, "Get", err)
	spoil(other)
	w.wantGet(3, numbered(1, 2))
	w.wantGet(10, numbered(1, 2))
}

// TestP11_5ToldStays demands that what was told stays as it was when the store changes.
func TestP11_5ToldStays(t *testing.T) {
	w := readied(t)
	addrs := w.p.Pages()
	wantAddrs := slices.Clone(addrs)
	n, err := w.p.Get(4102)
	must(t, "Get", err)
	w.drop(4102)
	must(t, "Scrap", w.p.Scrap(5))
	w.s.Settle()
	for range 6 {
		w.putAny(leaf(55))
	}
	w.p.Pages()
	if !slices.Equal(addrs, wantAddrs) || !equal(n, numbered(1, 4101, 3, 4098)) {
		t.Errorf("what was told is now %v, %v", addrs, n)
	}
}

// TestP11_5SectorsAreNotKept writes over what the bank tells, and over the devices, behind Adopt.
func TestP11_5SectorsAreNotKept(t *testing.T) {
	w := readied(t)
	w.adopt(9)
	data := w.sector(9)
	clear(data)
	w.layNode(9, numbered(1, 2, 2))
	w.wantGet(9, numbered(1, 7))
	w.drop(9)
	w.missing(7)
}
