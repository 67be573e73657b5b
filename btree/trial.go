package btree

import (
	"slices"

	"portage/node"
	"portage/pages"
)

// trial is a change of a tree that may still fail.
type trial struct {
	store *pages.Store
	// old is the tree that is changed, which the caller holds.
	old int
	// made has the pages that were put, in their order.
	made []int
}

// put makes a page.
func (t *trial) put(n node.Node) (int, error) {
	addr, err := t.store.Put(n)
	if err != nil {
		return 0, err
	}
	t.made = append(t.made, addr)
	return addr, nil
}

// putAll makes pages that stand side by side, and tells the pairs by which they are named.
func (t *trial) putAll(nodes []node.Node) ([]node.Pair, error) {
	var pairs []node.Pair
	for _, n := range nodes {
		addr, err := t.put(n)
		if err != nil {
			return nil, err
		}
		pairs = append(pairs, node.Pair{Key: n.Keys[0], Val: addr})
	}
	return pairs, nil
}

// change writes the pages down to a key anew, with what work makes of the leaf, and tells the tree that has them. Roots that name one page alone are left out ahead of it: what they would name then is the root, or gets a root above it.
func (t *trial) change(key int, work func(leaf node.Node) ([]node.Node, error)) (int, error) {
	steps, leaf, err := way(t.store, top(t.store, t.old), key)
	if err != nil {
		return 0, err
	}
	nodes, err := work(leaf)
	if err != nil {
		return 0, err
	}
	for _, s := range slices.Backward(steps) {
		pairs, err := t.putAll(nodes)
		if err != nil {
			return 0, err
		}
		nodes, err = s.node.Change(s.at, pairs...)
		if err != nil {
			return 0, err
		}
	}
	return t.root(nodes)
}

// root tells the tree of what became of a root. One that lost all pages but one is left out; that one was there already.
func (t *trial) root(nodes []node.Node) (int, error) {
	if len(nodes) == 1 && nodes[0].Level > 0 && len(nodes[0].Keys) == 1 {
		return top(t.store, nodes[0].Vals[0]), nil
	}
	pairs, err := t.putAll(nodes)
	if err != nil {
		return 0, err
	}
	switch len(pairs) {
	case 0:
		return 0, nil
	case 1:
		return pairs[0].Val, nil
	}
	above := node.Node{Level: nodes[0].Level + 1}
	for _, pair := range pairs {
		above.Keys = append(above.Keys, pair.Key)
		above.Vals = append(above.Vals, pair.Val)
	}
	return t.put(above)
}

// end tells the tree that the caller holds now. Behind an error what was put in vain is given back from the last one on, since each is named by later ones alone.
func (t *trial) end(root int, err error) (int, error) {
	if err == nil {
		err = t.turn(root)
	}
	if err == nil {
		return root, nil
	}
	for _, addr := range slices.Backward(t.made) {
		t.store.Scrap(addr)
	}
	return 0, err
}

// turn takes the hold of the old tree, and gives one of the new one. That is held first: maybe just the old one names it.
func (t *trial) turn(root int) error {
	if root == t.old {
		return nil
	}
	if root != 0 {
		if err := t.store.Hold(root); err != nil {
			return err
		}
	}
	if t.old == 0 {
		return nil
	}
	err := t.store.Drop(t.old)
	if err != nil {
		t.store.Drop(root)
	}
	return err
}
