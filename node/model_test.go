package node_test

import (
	"math"
	"slices"
	"testing"

	"portage/api"
	"portage/node"
)

// keysRight is the chapter's sentence about nodes, but for the count of keys.
func keysRight(n node.Node) bool {
	if n.Level < 0 || n.Level > 20 || len(n.Keys) != len(n.Vals) {
		return false
	}
	for i, key := range n.Keys {
		if key < 0 || key > 1<<40 || n.Vals[i] < 1 || n.Vals[i] > 1<<61 {
			return false
		}
		for _, ahead := range n.Keys[:i] {
			if ahead >= key {
				return false
			}
		}
	}
	return true
}

// isRight is the chapter's sentence about nodes.
func isRight(n node.Node) bool { return len(n.Keys) >= 1 && len(n.Keys) <= 7 && keysRight(n) }

// parts are the nodes that a call tells which leaves this one, of any count of keys up to eight.
func parts(n node.Node) []node.Node {
	switch len(n.Keys) {
	case 0:
		return nil
	case 8:
		return []node.Node{{Level: n.Level, Keys: n.Keys[:4], Vals: n.Vals[:4]}, {Level: n.Level, Keys: n.Keys[4:], Vals: n.Vals[4:]}}
	}
	return []node.Node{n}
}

// wordsFind is what the chapter's words say that Find tells.
func wordsFind(n node.Node, key int) (int, bool) {
	at := -1
	for i, k := range n.Keys {
		if k <= key {
			at = i
		}
	}
	return at, at >= 0 && n.Keys[at] == key
}

// wordsPut is what the chapter's words say that Put tells.
func wordsPut(n node.Node, key, val int) ([]node.Node, api.Code) {
	if !isRight(n) {
		return nil, api.ErrNode
	}
	if key < 0 || key > 1<<40 || val < 1 || val > 1<<61 {
		return nil, api.ErrKey
	}
	vals := map[int]int{key: val}
	for i, k := range n.Keys {
		if k != key {
			vals[k] = n.Vals[i]
		}
	}
	o := node.Node{Level: n.Level}
	for k := range vals {
		o.Keys = append(o.Keys, k)
	}
	slices.Sort(o.Keys)
	for _, k := range o.Keys {
		o.Vals = append(o.Vals, vals[k])
	}
	return parts(o), 0
}

// wordsDrop is what the chapter's words say that Drop tells.
func wordsDrop(n node.Node, key int) (node.Node, api.Code) {
	if !isRight(n) {
		return node.Node{}, api.ErrNode
	}
	o := node.Node{Level: n.Level}
	for i, k := range n.Keys {
		if k != key {
			o.Keys, o.Vals = append(o.Keys, k), append(o.Vals, n.Vals[i])
		}
	}
	if len(o.Keys) == len(n.Keys) {
		return node.Node{}, api.ErrMissing
	}
	return o, 0
}

// wordsChange is what the chapter's words say that Change tells.
func wordsChange(n node.Node, at int, pairs ...node.Pair) ([]node.Node, api.Code) {
	if !isRight(n) {
		return nil, api.ErrNode
	}
	if at < 0 || at >= len(n.Keys) || len(pairs) > 2 {
		return nil, api.ErrKey
	}
	o := node.Node{Level: n.Level}
	for i, k := range n.Keys {
		if i != at {
			o.Keys, o.Vals = append(o.Keys, k), append(o.Vals, n.Vals[i])
			continue
		}
		for _, p := range pairs {
			o.Keys, o.Vals = append(o.Keys, p.Key), append(o.Vals, p.Val)
		}
	}
	if !keysRight(o) {
		return nil, api.ErrKey
	}
	return parts(o), 0
}

// codeOf is the code that err is, 0 for nil, and -1 for anything else.
func codeOf(err error) api.Code {
	if err == nil {
		return 0
	}
	if c, ok := err.(api.Code); ok {
		return c
	}
	return -1
}

// likePut demands that Put tells what the chapter's words say, and tells it.
func likePut(t *testing.T, n node.Node, key, val int) []node.Node {
	t.Helper()
	got, err := n.Put(key, val)
	want, code := wordsPut(n, key, val)
	if codeOf(err) != code || !slices.EqualFunc(got, want, equal) {
		t.Fatalf("Put(%d, %d) of %v: %v, %v, not %v, %d", key, val, n, got, err, want, code)
	}
	return got
}

// likeDrop demands that Drop tells what the chapter's words say, and tells it.
func likeDrop(t *testing.T, n node.Node, key int) node.Node {
	t.Helper()
	got, err := n.Drop(key)
	want, code := wordsDrop(n, key)
	if codeOf(err) != code || !equal(got, want) {
		t.Fatalf("Drop(%d) of %v: %v, %v, not %v, %d", key, n, got, err, want, code)
	}
	return got
}

// likeChange demands that Change tells what the chapter's words say, and tells it.
func likeChange(t *testing.T, n node.Node, at int, pairs ...node.Pair) []node.Node {
	t.Helper()
	got, err := n.Change(at, pairs...)
	want, code := wordsChange(n, at, pairs...)
	if codeOf(err) != code || !slices.EqualFunc(got, want, equal) {
		t.Fatalf("Change(%d, %v) of %v: %v, %v, not %v, %d", at, pairs, n, got, err, want, code)
	}
	return got
}

// likeTold demands that what a node tells of itself is what the chapter's words say.
func likeTold(t *testing.T, n node.Node) {
	t.Helper()
	right := isRight(n)
	b, err := n.Bytes()
	if (n.Check() == nil) != right || (err == nil) != right || !n.Same(copied(n)) {
		t.Fatalf("%v tells %v, %v, %t", n, n.Check(), err, n.Same(copied(n)))
	}
	if !right {
		return
	}
	if !slices.Equal(b, encoded(n)) {
		t.Fatalf("Bytes of %v: %x, not %x", n, b, encoded(n))
	}
	if o, err := node.Parse(b); err != nil || !equal(o, n) {
		t.Fatalf("Parse of the sector of %v: %v, %v", n, o, err)
	}
}

// TestP10Small holds all nodes of keys from 0 to 8 against the chapter's words, in each call.
func TestP10Small(t *testing.T) {
	for set := range 1 << 9 {
		var keys []int
		for key := range 9 {
			if set>>key&1 == 1 {
				keys = append(keys, key)
			}
		}
		n := keyed(set%21, keys...)
		likeTold(t, n)
		for key := -1; key <= 9; key++ {
			if at, exact := n.Find(key); isRight(n) {
				if i, ok := wordsFind(n, key); at != i || exact != ok {
					t.Fatalf("Find(%d) of %v: %d, %t, not %d, %t", key, n, at, exact, i, ok)
				}
			}
			likePut(t, n, key, 7)
			likePut(t, n, key, 0)
			likeDrop(t, n, key)
		}
		for at := -1; at <= len(keys); at++ {
			likeChange(t, n, at)
			for first := -1; first <= 9; first++ {
				likeChange(t, n, at, pair(first, 7))
				for second := -1; second <= 9; second++ {
					likeChange(t, n, at, pair(first, 7), pair(second, 8))
				}
			}
		}
	}
}

// numbers tells numbers in an order that is always the same, and looks like none.
type numbers uint64

func (n *numbers) below(limit int) int {
	*n = *n*6364136223846793005 + 1442695040888963407
	return int(uint64(*n)>>33) % limit
}

// key tells a small key, or one at or beyond an end.
func (n *numbers) key() int {
	ends := []int{-1, 0, 1, greatestKey - 1, greatestKey, greatestKey + 1, math.MinInt, math.MaxInt}
	if n.below(8) == 0 {
		return ends[n.below(len(ends))]
	}
	return n.below(40)
}

// val tells a small value, or one at or beyond an end.
func (n *numbers) val() int {
	ends := []int{-1, 0, 1, greatestVal - 1, greatestVal, greatestVal + 1, math.MinInt, math.MaxInt}
	if n.below(8) == 0 {
		return ends[n.below(len(ends))]
	}
	return 1 + n.below(40)
}

// anyNode tells a node of which nothing is sure.
func (n *numbers) anyNode() node.Node {
	o := node.Node{Level: n.below(24) - 1}
	for range n.below(10) {
		o.Keys, o.Vals = append(o.Keys, n.key()), append(o.Vals, n.val())
	}
	if n.below(3) > 0 {
		slices.Sort(o.Keys)
	}
	if n.below(8) == 0 && len(o.Vals) > 0 {
		o.Vals = o.Vals[1:]
	}
	return o
}

// TestP10Any holds nodes of which nothing is sure against the chapter's words, in each call.
func TestP10Any(t *testing.T) {
	next := numbers(10)
	for range 200000 {
		n := next.anyNode()
		likeTold(t, n)
		likePut(t, n, next.key(), next.val())
		likeDrop(t, n, next.key())
		var pairs []node.Pair
		for range next.below(4) {
			pairs = append(pairs, pair(next.key(), next.val()))
		}
		likeChange(t, n, next.below(10)-1, pairs...)
	}
}

// TestP10Long lets nodes go through many calls, and holds them against the chapter's words behind each.
func TestP10Long(t *testing.T) {
	for run := range 300 {
		next := numbers(run)
		n := keyed(run%21, next.below(40))
		for range 200 {
			var got []node.Node
			switch next.below(4) {
			case 0, 1:
				got = likePut(t, n, next.key(), next.val())
			case 2:
				got = append(got, likeDrop(t, n, next.key()))
			case 3:
				at := next.below(len(n.Keys)+2) - 1
				pairs := []node.Pair{pair(next.key(), next.val()), pair(next.key(), next.val())}
				got = likeChange(t, n, at, pairs[:next.below(3)]...)
			}
			if len(got) > 0 && isRight(got[0]) {
				n = got[next.below(len(got))]
			}
			likeTold(t, n)
		}
	}
}

// TestP10_1ParseAny parses sectors of which nothing is sure: what is told has just that sector.
func TestP10_1ParseAny(t *testing.T) {
	next, told := numbers(11), 0
	for range 100000 {
		n := next.anyNode()
		p := []byte{byte(n.Level), byte(len(n.Keys))}
		for i := range min(len(n.Keys), len(n.Vals), most) {
			p = append(p, payload(0, 0, uint64(n.Keys[i]), uint64(n.Vals[i]))[2:]...)
		}
		sector := framed(byte(2-next.below(8)/7), len(p)+next.below(6)/5, p)
		o, err := node.Parse(sector)
		if err != nil {
			wantNoParse(t, "anything", sector)
			if isRight(n) && slices.Equal(sector, encoded(n)) {
				t.Fatalf("Parse of the sector of %v: %v", n, err)
			}
			continue
		}
		told++
		if !isRight(o) || !slices.Equal(encoded(o), sector) {
			t.Fatalf("Parse of %x: %v, whose sector it is not", sector, o)
		}
	}
	if told < 1000 {
		t.Errorf("just %d nodes were told", told)
	}
}
