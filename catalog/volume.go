package catalog

import (
	"slices"

	"portage/api"
	"portage/node"
)

// What a pair of a volume tells. Each Id has as many keys, of which the last one tells nothing, and is not used.
const (
	tellsSize = iota
	tellsRoot
	tellsOrigin
	tellsNothing
	keysPerId
)

// The greatest Id, and the greatest Root, which is the greatest value that a tree may have.
const (
	maxId   = 1 << 20
	maxRoot = 1 << 61
)

// Volume is a volume.
type Volume struct{ Id, Size, Root, Origin int }

// isRight tells whether a volume may be in a catalog.
func (v Volume) isRight() bool {
	return isWithin(v.Id, 1, maxId) && isWithin(v.Size, 1, api.MaxBlocks) && isWithin(v.Root, 0, maxRoot) && isWithin(v.Origin, 0, maxId)
}

// isWithin tells whether a number is from least to most.
func isWithin(number, least, most int) bool { return number >= least && number <= most }

// pairsOf tells the pairs of volumes, in their order. What is 0 has no pair.
func pairsOf(volumes []Volume) []node.Pair {
	var pairs []node.Pair
	for _, v := range volumes {
		for what, val := range [keysPerId]int{tellsSize: v.Size, tellsRoot: v.Root, tellsOrigin: v.Origin, tellsNothing: 0} {
			if val != 0 {
				pairs = append(pairs, node.Pair{Key: v.Id*keysPerId + what, Val: val})
			}
		}
	}
	return pairs
}

// volumesOf tells the right volumes that have just these pairs, whose keys rise. What they tell is taken as it comes, and held against the pairs of what came of it.
func volumesOf(pairs []node.Pair) ([]Volume, error) {
	var volumes []Volume
	for _, pair := range pairs {
		id, last := pair.Key/keysPerId, len(volumes)-1
		if last < 0 || volumes[last].Id != id {
			volumes = append(volumes, Volume{Id: id})
			last++
		}
		switch v := &volumes[last]; pair.Key % keysPerId {
		case tellsSize:
			v.Size = pair.Val
		case tellsRoot:
			v.Root = pair.Val
		case tellsOrigin:
			v.Origin = pair.Val
		}
	}
	isWrong := func(v Volume) bool { return !v.isRight() }
	if len(volumes) > api.MaxVolumes || slices.ContainsFunc(volumes, isWrong) || !slices.Equal(pairsOf(volumes), pairs) {
		return nil, api.ErrNode
	}
	return volumes, nil
}
