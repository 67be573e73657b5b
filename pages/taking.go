package pages

import "portage/api"

// taking is a tree that is being taken from the devices. The store is left alone till all of the tree is there, so that an error has just the marks in the space to undo.
type taking struct {
	store *Store
	// changed has the pages that are new to the store, and those that have more holds now.
	changed map[int]page
	// marked has the addresses that were marked in the space.
	marked []int
}

// at tells the page at an address, as it is so far.
func (t *taking) at(addr int) page {
	if x, has := t.changed[addr]; has {
		return x
	}
	return t.store.at(addr)
}

// add lets the page at an address be named and held so many times more, and takes it from the devices first if nobody knows it.
func (t *taking) add(addr, named, held int) error {
	if t.at(addr).isNone() {
		if err := t.take(addr); err != nil {
			return err
		}
	}
	t.changed[addr] = t.at(addr).more(named, held)
	return nil
}

// take takes a page from the devices, with all that it names. It is known ahead of those, so that pages that name one another in a ring come to an end: the Levels then do not fit.
func (t *taking) take(addr int) error {
	n, err := t.store.read(addr)
	if err != nil {
		return err
	}
	if err := t.store.space.Mark(addr); err != nil {
		return err
	}
	t.marked = append(t.marked, addr)
	t.changed[addr] = page{node: n}
	for _, lower := range below(n) {
		if err := t.add(lower, 1, 0); err != nil {
			return err
		}
	}
	if !levelsFit(n, t.at) {
		return api.ErrNode
	}
	return nil
}

// unmark frees what was marked.
func (t *taking) unmark() {
	for _, addr := range t.marked {
		t.store.space.Unmark(addr)
	}
}
