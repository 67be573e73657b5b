package node_test

import (
	"bytes"
	"slices"
	"testing"

	"portage/api"
	"portage/node"
)

// spare is what stands in the spare room of what is handed in, and must stay there; written is what is laid over it, and over answers.
const (
	spare   = -77
	written = -78
)

// room is how much spare room stands behind what is handed in.
const room = 12

// roomyList is a list with spare room behind it.
func roomyList(list []int) []int {
	return append(slices.Clone(list), slices.Repeat([]int{spare}, room)...)[:len(list)]
}

// roomy is a node whose lists have spare room behind them.
func roomy(n node.Node) node.Node {
	return node.Node{Level: n.Level, Keys: roomyList(n.Keys), Vals: roomyList(n.Vals)}
}

// whole is a list with all of its spare room.
func whole[T any](list []T) []T { return list[:cap(list)] }

// overwrite lays x over all of a list, its spare room too, and appends it.
func overwrite[T any](list []T, x T) {
	_ = append(list, x)
	for i := range whole(list) {
		whole(list)[i] = x
	}
	_ = append(whole(list), x)
}

// spoil writes over a node's lists, their spare room too.
func spoil(n node.Node) {
	overwrite(n.Keys, written)
	overwrite(n.Vals, written)
}

// anyWritten tells whether something was laid in a list or its spare room.
func anyWritten(list []int) bool { return slices.Contains(whole(list), written) }

// lists are all lists of numbers in an answer.
func lists(nodes []node.Node) [][]int {
	var all [][]int
	for _, n := range nodes {
		all = append(all, n.Keys, n.Vals)
	}
	return all
}

// answers are what a node tells in all of its calls that tell nodes, by what is asked; what is asked is right, or refused, or of a node that is not right.
func answers(n node.Node, pairs []node.Pair) map[string][]node.Node {
	told := map[string][]node.Node{}
	told["Put new"], _ = n.Put(15, 3)
	told["Put new first"], _ = n.Put(0, 3)
	told["Put new last"], _ = n.Put(greatestKey, 3)
	told["Put there"], _ = n.Put(10, 3)
	told["Put the same"], _ = n.Put(10, valued(10).Val)
	told["Put refused"], _ = n.Put(-1, 3)
	dropped, _ := n.Drop(10)
	missing, _ := n.Drop(15)
	told["Drop"], told["Drop missing"] = []node.Node{dropped}, []node.Node{missing}
	for count := range len(pairs) + 1 {
		told["Change "+string(rune('0'+count))], _ = n.Change(0, pairs[:count]...)
	}
	told["Change last"], _ = n.Change(len(n.Keys)-1, pairs[2:]...)
	told["Change nowhere"], _ = n.Change(-1, pairs[:1]...)
	return told
}

// roomyPairs are three pairs, of which none, the first one and the first two may stand in the place of the first of the tens, and spare room.
func roomyPairs() []node.Pair {
	return append([]node.Pair{pair(10, 4), pair(11, 5), pair(greatestKey, 6)}, slices.Repeat([]node.Pair{pair(spare, spare)}, room)...)[:3]
}

// TestP10_5HandedIn demands that nodes, pairs and their spare room are as they were behind each call.
func TestP10_5HandedIn(t *testing.T) {
	for _, was := range append(right(), notRight()...) {
		n, o := roomy(was), roomy(was)
		keys, vals := slices.Clone(whole(n.Keys)), slices.Clone(whole(n.Vals))
		pairs := roomyPairs()
		n.Check()
		n.Bytes()
		n.Find(15)
		n.Find(10)
		n.Same(o)
		o.Same(n)
		n.Same(tens(1, 3))
		for _, key := range n.Keys {
			n.Find(key)
			n.Put(key, 8)
			n.Put(key+1, 8)
			n.Drop(key)
		}
		for at := -1; at <= len(n.Keys) && at < 10; at++ {
			for count := range len(pairs) + 1 {
				n.Change(at, pairs[:count]...)
			}
		}
		answers(n, pairs)
		for _, x := range []node.Node{n, o} {
			if !equal(x, was) || !slices.Equal(whole(x.Keys), keys) || !slices.Equal(whole(x.Vals), vals) {
				t.Fatalf("what is handed in is changed: %v, %v, %v", x, whole(x.Keys), whole(x.Vals))
			}
		}
		if !slices.Equal(whole(pairs), whole(roomyPairs())) {
			t.Fatalf("the pairs that are handed in are changed: %v", whole(pairs))
		}
	}
}

// TestP10_5ToldIsNew writes over each answer, and wants the node, the pairs and all other answers as they were.
func TestP10_5ToldIsNew(t *testing.T) {
	for count := 1; count <= most; count++ {
		n, pairs := roomy(tens(3, count)), roomyPairs()
		want := answers(tens(3, count), roomyPairs())
		for what := range want {
			first, second := answers(n, pairs), answers(n, pairs)
			for _, told := range first[what] {
				spoil(told)
			}
			overwrite(first[what], with(written, pair(written, written)))
			if !equal(n, tens(3, count)) || anyWritten(n.Keys) || anyWritten(n.Vals) {
				t.Fatalf("%s shares memory with the node: %v, %v", what, whole(n.Keys), whole(n.Vals))
			}
			if !slices.Equal(whole(pairs), whole(roomyPairs())) {
				t.Fatalf("%s shares memory with the pairs: %v", what, whole(pairs))
			}
			wantUnspoilt(t, what, first, want, what)
			wantUnspoilt(t, what, second, want, "")
		}
	}
}

// wantUnspoilt demands that all answers but one are as they should be, and that nothing is laid in their spare room.
func wantUnspoilt(t *testing.T, spoilt string, got, want map[string][]node.Node, but string) {
	t.Helper()
	for what, nodes := range got {
		if what == but {
			continue
		}
		if !slices.EqualFunc(nodes, want[what], equal) || slices.ContainsFunc(lists(nodes), anyWritten) {
			t.Fatalf("%s shares memory with %s: %v, not %v", spoilt, what, nodes, want[what])
		}
		for _, n := range whole(nodes) {
			if n.Level == written {
				t.Fatalf("%s shares the memory of its list with %s", spoilt, what)
			}
		}
	}
}

// TestP10_5ListsOfOneAnswer writes over one list of an answer, and wants the others as they were, their spare room too.
func TestP10_5ListsOfOneAnswer(t *testing.T) {
	for count := 1; count <= most; count++ {
		want := answers(tens(3, count), roomyPairs())
		for what, nodes := range want {
			for i := range lists(nodes) {
				told := lists(answers(roomy(tens(3, count)), roomyPairs())[what])
				overwrite(told[i], written)
				for j, list := range told {
					if j != i && (!slices.Equal(list, lists(nodes)[j]) || anyWritten(list)) {
						t.Fatalf("%s: the lists %d and %d share memory: %v", what, i, j, whole(list))
					}
				}
			}
		}
	}
}

// TestP10_5NotKept writes over the node and the pairs behind the calls, and wants all answers as they were.
func TestP10_5NotKept(t *testing.T) {
	for count := 1; count <= most; count++ {
		n, pairs := roomy(tens(3, count)), roomyPairs()
		told := answers(n, pairs)
		sector, err := n.Bytes()
		must(t, "Bytes", err)
		spoil(n)
		overwrite(pairs, pair(written, written))
		wantUnspoilt(t, "the node", told, answers(tens(3, count), roomyPairs()), "")
		if !bytes.Equal(sector, encoded(tens(3, count))) {
			t.Errorf("the sector changes with the node: %x", sector)
		}
	}
}

func TestP10_5BytesAreNew(t *testing.T) {
	for _, was := range right() {
		n := roomy(was)
		first, err := n.Bytes()
		must(t, "Bytes", err)
		second, err := n.Bytes()
		must(t, "Bytes", err)
		overwrite(first, '!')
		if !equal(n, was) || !bytes.Equal(second, encoded(was)) || bytes.Contains(whole(second)[len(second):], []byte{'!'}) {
			t.Errorf("what Bytes told shares memory: %v, %x", n, whole(second))
		}
		third, err := n.Bytes()
		must(t, "Bytes", err)
		if !bytes.Equal(third, encoded(was)) {
			t.Errorf("Bytes behind an answer that was written over: %x", third)
		}
	}
}

func TestP10_5Parse(t *testing.T) {
	for _, was := range right() {
		all := append(encoded(was), bytes.Repeat([]byte{'~'}, 100)...)
		before := slices.Clone(all)
		sector := all[:api.Sector]
		first, err := node.Parse(sector)
		must(t, "Parse", err)
		second, err := node.Parse(sector)
		must(t, "Parse", err)
		for _, size := range []int{0, api.Sector - 1, api.Sector + 1} {
			node.Parse(all[:size])
		}
		if !bytes.Equal(all, before) {
			t.Fatalf("Parse changes what is handed in: %x", all)
		}
		overwrite(first.Keys, written)
		if !slices.Equal(first.Vals, was.Vals) || anyWritten(first.Vals) {
			t.Errorf("the two lists of one node share memory: %v", whole(first.Vals))
		}
		overwrite(first.Vals, written)
		overwrite(sector, '!')
		if !equal(second, was) || anyWritten(second.Keys) || anyWritten(second.Vals) {
			t.Errorf("what Parse told shares memory: %v", second)
		}
	}
}
