package node_test

import (
	"math"
	"slices"
	"testing"

	"portage/api"
	"portage/node"
)

func TestP10_3PutExamples(t *testing.T) {
	n := keyed(0, 1, 5, 9)
	got, err := n.Put(6, 2)
	wantNodes(t, "Put(6, 2)", got, err, with(0, valued(1), valued(5), pair(6, 2), valued(9)))
	seven := keyed(2, 1, 2, 3, 4, 5, 6, 7)
	got, err = seven.Put(8, 108)
	wantNodes(t, "Put of one more", got, err, keyed(2, 1, 2, 3, 4), keyed(2, 5, 6, 7, 8))
}

// TestP10_3PutNew puts a key that is new at each place, in nodes that have room for it.
func TestP10_3PutNew(t *testing.T) {
	for _, level := range []int{0, 1, levels} {
		for count := 1; count < most; count++ {
			n := tens(level, count)
			for i := range count + 1 {
				for _, key := range []int{10*i + 1, 10*i + 5, 10*i + 9} {
					want := keyed(level, slices.Insert(slices.Clone(n.Keys), i, key)...)
					got, err := n.Put(key, valued(key).Val)
					wantNodes(t, "Put of a new key", got, err, want)
				}
			}
		}
	}
}

// TestP10_3PutThere puts a key that is there, with another value, with the same, and with those at the ends.
func TestP10_3PutThere(t *testing.T) {
	for _, level := range []int{0, levels} {
		for count := 1; count <= most; count++ {
			n := tens(level, count)
			for i, key := range n.Keys {
				for _, val := range []int{1, 7, n.Vals[i], n.Vals[0], greatestVal} {
					want := copied(n)
					want.Vals[i] = val
					got, err := n.Put(key, val)
					wantNodes(t, "Put of a key that is there", got, err, want)
				}
			}
		}
	}
}

// TestP10_3PutCuts puts a key that is new at each place in nodes of seven keys: there are two then.
func TestP10_3PutCuts(t *testing.T) {
	for _, level := range []int{0, 1, levels} {
		n := tens(level, most)
		for i := range most + 1 {
			for _, key := range []int{10*i + 1, 10*i + 9} {
				all := slices.Insert(slices.Clone(n.Keys), i, key)
				got, err := n.Put(key, valued(key).Val)
				wantNodes(t, "Put of an eighth key", got, err, keyed(level, all[:4]...), keyed(level, all[4:]...))
				for _, o := range got {
					must(t, "Check", o.Check())
				}
			}
		}
	}
}

// TestP10_3PutFillsUp puts one key behind the other, rising and falling, till there are two nodes.
func TestP10_3PutFillsUp(t *testing.T) {
	rising, falling := keyed(5, 0), keyed(5, most)
	for i := 1; i < most; i++ {
		got, err := rising.Put(i, valued(i).Val)
		if err != nil || len(got) != 1 {
			t.Fatalf("Put of the key %d: %v, %v", i, got, err)
		}
		rising = got[0]
		got, err = falling.Put(most-i, valued(most-i).Val)
		if err != nil || len(got) != 1 {
			t.Fatalf("Put of the key %d: %v, %v", most-i, got, err)
		}
		falling = got[0]
	}
	got, err := rising.Put(most, valued(most).Val)
	wantNodes(t, "rising", got, err, keyed(5, 0, 1, 2, 3), keyed(5, 4, 5, 6, 7))
	got, err = falling.Put(0, valued(0).Val)
	wantNodes(t, "falling", got, err, keyed(5, 0, 1, 2, 3), keyed(5, 4, 5, 6, 7))
}

func TestP10_3PutAtTheEnds(t *testing.T) {
	n := keyed(0, 10)
	for _, val := range []int{1, 2, greatestVal - 1, greatestVal} {
		for _, key := range []int{0, 1} {
			got, err := n.Put(key, val)
			wantNodes(t, "Put of a least key", got, err, with(0, pair(key, val), valued(10)))
		}
		for _, key := range []int{greatestKey - 1, greatestKey} {
			got, err := n.Put(key, val)
			wantNodes(t, "Put of a greatest key", got, err, with(0, valued(10), pair(key, val)))
		}
	}
	// A key at an end that is there already is told with its new value.
	ends := with(0, pair(0, 1), pair(greatestKey, greatestVal))
	got, err := ends.Put(0, greatestVal)
	wantNodes(t, "Put of 0", got, err, with(0, pair(0, greatestVal), pair(greatestKey, greatestVal)))
	got, err = ends.Put(greatestKey, 1)
	wantNodes(t, "Put of 2^40", got, err, with(0, pair(0, 1), pair(greatestKey, 1)))
}

func TestP10_3PutBeyondTheEnds(t *testing.T) {
	for _, n := range right() {
		for _, key := range noKeys {
			got, err := n.Put(key, 1)
			wantNoNodes(t, "Put of a key beyond the ends", got, err, api.ErrKey)
		}
		for _, val := range noVals {
			for _, key := range []int{0, 15, n.Keys[0], greatestKey} {
				got, err := n.Put(key, val)
				wantNoNodes(t, "Put of a value beyond the ends", got, err, api.ErrKey)
			}
		}
		got, err := n.Put(-1, 0)
		wantNoNodes(t, "Put of both beyond the ends", got, err, api.ErrKey)
	}
}

func TestP10_3NotRight(t *testing.T) {
	for _, n := range notRight() {
		for _, p := range []node.Pair{pair(0, 1), pair(10, 1), pair(15, greatestVal), pair(greatestKey, 1), pair(-1, 1), pair(1, 0), pair(greatestKey+1, greatestVal+1), pair(math.MinInt, math.MaxInt)} {
			got, err := n.Put(p.Key, p.Val)
			wantNoNodes(t, "Put", got, err, api.ErrNode)
			wantNoDrop(t, n, p.Key, api.ErrNode)
		}
		for _, key := range n.Keys {
			wantNoDrop(t, n, key, api.ErrNode)
		}
		if t.Failed() {
			t.Fatalf("of %v", n)
		}
	}
}

func TestP10_3Drop(t *testing.T) {
	for _, level := range []int{0, 1, levels} {
		for count := 1; count <= most; count++ {
			n := tens(level, count)
			for i, key := range n.Keys {
				want := keyed(level, slices.Delete(slices.Clone(n.Keys), i, i+1)...)
				if got, err := n.Drop(key); err != nil || !equal(got, want) {
					t.Errorf("Drop(%d) of %v: %v, %v, not %v", key, n, got, err, want)
				}
			}
		}
	}
	ends := with(0, pair(0, 1), pair(greatestKey, greatestVal))
	if got, err := ends.Drop(0); err != nil || !equal(got, with(0, pair(greatestKey, greatestVal))) {
		t.Errorf("Drop(0): %v, %v", got, err)
	}
	if got, err := ends.Drop(greatestKey); err != nil || !equal(got, with(0, pair(0, 1))) {
		t.Errorf("Drop(2^40): %v, %v", got, err)
	}
}

// TestP10_3DropTheOnlyKey keeps the level of a node without keys, which is not right.
func TestP10_3DropTheOnlyKey(t *testing.T) {
	for _, level := range []int{0, 1, levels} {
		got, err := keyed(level, 7).Drop(7)
		if err != nil || !equal(got, node.Node{Level: level}) {
			t.Errorf("Drop of the only key: %v, %v", got, err)
		}
		wantCode(t, "Check", got.Check(), api.ErrNode)
	}
}

func TestP10_3DropMissing(t *testing.T) {
	for count := 1; count <= most; count++ {
		n := tens(3, count)
		for i := range count + 1 {
			for _, key := range []int{10*i + 1, 10*i + 5, 10*i + 9} {
				wantNoDrop(t, n, key, api.ErrMissing)
			}
		}
		for _, key := range append([]int{0, 10 * (count + 1), greatestKey}, noKeys...) {
			wantNoDrop(t, n, key, api.ErrMissing)
		}
		// What is a value there is no key.
		for _, val := range n.Vals {
			wantNoDrop(t, n, val, api.ErrMissing)
		}
	}
}

func TestP10_4Example(t *testing.T) {
	n := keyed(0, 1, 5, 9)
	got, err := n.Change(1, pair(5, 8), pair(7, 2))
	wantNodes(t, "Change(1, {5, 8}, {7, 2})", got, err, with(0, valued(1), pair(5, 8), pair(7, 2), valued(9)))
	got, err = n.Change(1, pair(9, 8))
	wantNoNodes(t, "Change(1, {9, 8})", got, err, api.ErrKey)
}

// wantChange demands that Change tells the node with these pairs at a place, cut in two if there are eight.
func wantChange(t *testing.T, n node.Node, at int, pairs ...node.Pair) {
	t.Helper()
	all := node.Node{Level: n.Level, Keys: slices.Clone(n.Keys[:at]), Vals: slices.Clone(n.Vals[:at])}
	for _, p := range pairs {
		all.Keys, all.Vals = append(all.Keys, p.Key), append(all.Vals, p.Val)
	}
	all.Keys, all.Vals = append(all.Keys, n.Keys[at+1:]...), append(all.Vals, n.Vals[at+1:]...)
	var want []node.Node
	switch len(all.Keys) {
	case 0:
	case 8:
		want = append(want,
			node.Node{Level: n.Level, Keys: all.Keys[:4], Vals: all.Vals[:4]},
			node.Node{Level: n.Level, Keys: all.Keys[4:], Vals: all.Vals[4:]})
	default:
		want = append(want, all)
	}
	got, err := n.Change(at, pairs...)
	wantNodes(t, "Change", got, err, want...)
	for _, o := range got {
		must(t, "Check", o.Check())
	}
	if t.Failed() {
		t.Fatalf("Change(%d, %v) of %v", at, pairs, n)
	}
}

// wantNoChange demands that Change tells this error, and nothing beside it.
func wantNoChange(t *testing.T, n node.Node, code api.Code, at int, pairs ...node.Pair) {
	t.Helper()
	got, err := n.Change(at, pairs...)
	wantNoNodes(t, "Change", got, err, code)
	if t.Failed() {
		t.Fatalf("Change(%d, %v) of %v", at, pairs, n)
	}
}

// TestP10_4Change changes nodes at each place, with pairs that keep the keys rising.
func TestP10_4Change(t *testing.T) {
	for _, level := range []int{0, 1, levels} {
		for count := 1; count <= most; count++ {
			n := tens(level, count)
			for at, key := range n.Keys {
				wantChange(t, n, at)
				wantChange(t, n, at, []node.Pair{}...)
				for _, first := range []int{key - 9, key - 1, key, key + 1, key + 8} {
					wantChange(t, n, at, pair(first, 3))
					wantChange(t, n, at, pair(first, n.Vals[at]))
					wantChange(t, n, at, pair(first, 3), pair(first+1, 2))
					wantChange(t, n, at, pair(first, 4), pair(key+9, 4))
				}
			}
		}
	}
}

// TestP10_4ChangeAtTheEnds takes pairs with keys and values at each end.
func TestP10_4ChangeAtTheEnds(t *testing.T) {
	for count := 1; count <= most; count++ {
		n := tens(3, count)
		last := count - 1
		for _, val := range []int{1, 2, greatestVal - 1, greatestVal} {
			wantChange(t, n, 0, pair(0, val))
			wantChange(t, n, 0, pair(0, val), pair(1, val))
			wantChange(t, n, 0, pair(0, 1), pair(19, val))
			wantChange(t, n, last, pair(greatestKey, val))
			wantChange(t, n, last, pair(greatestKey-1, val), pair(greatestKey, val))
			wantChange(t, n, last, pair(10*last+1, val), pair(greatestKey, greatestVal))
		}
	}
	wantChange(t, keyed(0, 5), 0, pair(0, 1), pair(greatestKey, greatestVal))
	ends := with(0, pair(0, 1), pair(greatestKey, greatestVal))
	wantChange(t, ends, 0, pair(greatestKey-2, 1), pair(greatestKey-1, 1))
	wantChange(t, ends, 1, pair(1, 1), pair(2, 1))
}

// TestP10_4ChangeBeyondTheEnds takes pairs of which just one number is not right, the keys rising as they should where they can.
func TestP10_4ChangeBeyondTheEnds(t *testing.T) {
	for count := 1; count <= most; count++ {
		n := tens(3, count)
		for at, key := range n.Keys {
			for _, no := range noKeys {
				wantNoChange(t, n, api.ErrKey, at, pair(no, 1))
				wantNoChange(t, n, api.ErrKey, at, pair(no, 1), pair(key, 1))
				wantNoChange(t, n, api.ErrKey, at, pair(key, 1), pair(no, 1))
			}
			for _, no := range noVals {
				wantNoChange(t, n, api.ErrKey, at, pair(key, no))
				wantNoChange(t, n, api.ErrKey, at, pair(key-1, no), pair(key, 1))
				wantNoChange(t, n, api.ErrKey, at, pair(key-1, 1), pair(key, no))
			}
		}
	}
}

// TestP10_4ChangeFalls takes pairs that do not rise: below, above and equal to the keys beside them, and to each other.
func TestP10_4ChangeFalls(t *testing.T) {
	for count := 1; count <= most; count++ {
		n := tens(3, count)
		for at, key := range n.Keys {
			for _, other := range []int{key, key - 1, 10*at + 1, 0} {
				wantNoChange(t, n, api.ErrKey, at, pair(key, 1), pair(other, 1))
			}
			if at > 0 {
				for _, below := range []int{key - 10, key - 11, 0} {
					wantNoChange(t, n, api.ErrKey, at, pair(below, 1))
					wantNoChange(t, n, api.ErrKey, at, pair(below, 1), pair(key, 1))
				}
			}
			if at < count-1 {
				for _, above := range []int{key + 10, key + 11, greatestKey} {
					wantNoChange(t, n, api.ErrKey, at, pair(above, 1))
					wantNoChange(t, n, api.ErrKey, at, pair(key, 1), pair(above, 1))
				}
			}
		}
	}
}

// TestP10_4ChangeNowhere names places at which there is no key.
func TestP10_4ChangeNowhere(t *testing.T) {
	for count := 1; count <= most; count++ {
		n := tens(3, count)
		for _, at := range []int{-1, -2, -count, math.MinInt, math.MinInt + 1, count, count + 1, most + 1, math.MaxInt32, math.MaxInt - 1, math.MaxInt} {
			wantNoChange(t, n, api.ErrKey, at)
			wantNoChange(t, n, api.ErrKey, at, pair(500, 1))
			wantNoChange(t, n, api.ErrKey, at, pair(500, 1), pair(501, 1))
			wantNoChange(t, n, api.ErrKey, at, pair(500, 1), pair(501, 1), pair(502, 1))
		}
	}
}

// TestP10_4ChangeTooMany hands in more than two pairs, all of which would keep the keys rising.
func TestP10_4ChangeTooMany(t *testing.T) {
	for count := 1; count <= most; count++ {
		n := tens(3, count)
		for at := range n.Keys {
			var pairs []node.Pair
			for i := range 9 {
				pairs = append(pairs, pair(10*at+1+i, 1))
				if i >= 2 {
					wantNoChange(t, n, api.ErrKey, at, pairs...)
				}
			}
			wantNoChange(t, n, api.ErrKey, at, make([]node.Pair, 1000)...)
		}
	}
}

// TestP10_4ChangeOfTheOnlyKey tells no node if nothing stands in its place.
func TestP10_4ChangeOfTheOnlyKey(t *testing.T) {
	for _, level := range []int{0, 1, levels} {
		n := keyed(level, 7)
		if got, err := n.Change(0); err != nil || len(got) != 0 {
			t.Errorf("Change(0) of one key: %v, %v", got, err)
		}
		got, err := n.Change(0, pair(3, 4))
		wantNodes(t, "Change(0, {3, 4})", got, err, with(level, pair(3, 4)))
		got, err = n.Change(0, pair(3, 4), pair(8, 4))
		wantNodes(t, "Change(0, {3, 4}, {8, 4})", got, err, with(level, pair(3, 4), pair(8, 4)))
	}
}

// TestP10_4ChangeCuts puts two pairs at each place of seven: there are two nodes then.
func TestP10_4ChangeCuts(t *testing.T) {
	n := keyed(6, 10, 20, 30, 40, 50, 60, 70)
	got, err := n.Change(0, valued(10), valued(15))
	wantNodes(t, "at 0", got, err, keyed(6, 10, 15, 20, 30), keyed(6, 40, 50, 60, 70))
	got, err = n.Change(3, valued(40), valued(45))
	wantNodes(t, "at 3", got, err, keyed(6, 10, 20, 30, 40), keyed(6, 45, 50, 60, 70))
	got, err = n.Change(6, valued(70), valued(75))
	wantNodes(t, "at 6", got, err, keyed(6, 10, 20, 30, 40), keyed(6, 50, 60, 70, 75))
}

func TestP10_4NotRight(t *testing.T) {
	for _, n := range notRight() {
		for _, at := range []int{math.MinInt, -1, 0, 1, 6, 7, len(n.Keys), math.MaxInt} {
			wantNoChange(t, n, api.ErrNode, at)
			wantNoChange(t, n, api.ErrNode, at, pair(10, 1))
			wantNoChange(t, n, api.ErrNode, at, pair(-1, 0))
			wantNoChange(t, n, api.ErrNode, at, pair(10, 1), pair(11, 1))
			wantNoChange(t, n, api.ErrNode, at, pair(10, 1), pair(11, 1), pair(12, 1))
		}
	}
}
