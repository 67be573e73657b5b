package btree

import (
	"cmp"
	"maps"
	"slices"

	"portage/api"
	"portage/node"
	"portage/pages"
	"portage/space"
)

// swap is a tree that gets other values, and leaves a device.
type swap struct {
	trial
	device      int
	noted, vals map[int]int
	// more is to be noted, too, when nothing can fail any more.
	more map[int]int
}

// Swap tells the tree with other values for those that are keys of vals, and with other pages for those that are on a device or name something else then. Which page became which is noted, so that other trees share them.
func Swap(p *pages.Store, root, device int, noted, vals map[int]int) (int, error) {
	if root == 0 {
		return 0, nil
	}
	s := swap{trial: trial{store: p, old: root}, device: device, noted: noted, vals: vals, more: map[int]int{}}
	to, err := s.end(s.tree())
	if err == nil && noted != nil {
		maps.Copy(noted, s.more)
	}
	return to, err
}

// tree writes the pages anew that must be, and tells the root then. All values are looked at first: that one may not be there is told ahead of what a device answers.
func (s *swap) tree() (int, error) {
	nodes, err := reach(s.store, s.old, s.noted)
	if err != nil {
		return 0, err
	}
	for _, n := range nodes {
		if n.Level == 0 && s.next(n).Check() != nil {
			return 0, api.ErrKey
		}
	}
	for _, addr := range upward(nodes) {
		if err := s.page(addr, nodes[addr]); err != nil {
			return 0, err
		}
	}
	to := s.now(s.old)
	if to == 0 {
		// Noted as 0 it is no page, and must not pass for the empty tree.
		return 0, api.ErrMissing
	}
	return to, nil
}

// page writes a page anew, if it must be.
func (s *swap) page(addr int, n node.Node) error {
	next := s.next(n)
	on, _ := space.At(addr)
	if on != s.device && next.Same(n) {
		return nil
	}
	to, err := s.put(next)
	if err != nil {
		return err
	}
	s.more[addr] = to
	return nil
}

// next tells the node with the values that it has then: of a leaf other ones, of others the pages that stand there then.
func (s *swap) next(n node.Node) node.Node {
	next := node.Node{Level: n.Level, Keys: n.Keys}
	for _, val := range n.Vals {
		if n.Level > 0 {
			val = s.now(val)
		} else if to, is := s.vals[val]; is {
			val = to
		}
		next.Vals = append(next.Vals, val)
	}
	return next
}

// now tells the address that a page has now.
func (s *swap) now(addr int) int {
	if to, is := s.noted[addr]; is {
		return to
	}
	if to, is := s.more[addr]; is {
		return to
	}
	return addr
}

// upward tells the addresses of pages, each behind those that it names.
func upward(nodes map[int]node.Node) []int {
	return slices.SortedFunc(maps.Keys(nodes), func(a, b int) int {
		return cmp.Or(cmp.Compare(nodes[a].Level, nodes[b].Level), cmp.Compare(a, b))
	})
}
