package plan_test

import (
	"slices"
	"testing"

	"portage/api"
	"portage/plan"
)

// wordRight tells whether a list of addresses is right, as the chapter's words put it.
func wordRight(addrs []int) bool {
	for i, addr := range addrs {
		if addr < 1 || addr >= api.MaxDevices*api.MaxSectors || slices.Contains(addrs[:i], addr) {
			return false
		}
	}
	return true
}

// wordRegions are the regions of a right list, as the chapter's words put it.
func wordRegions(addrs []int) []plan.Region {
	var on [api.MaxDevices][]int
	for _, addr := range addrs {
		on[addr/api.MaxSectors] = append(on[addr/api.MaxSectors], addr)
	}
	var regions []plan.Region
	for device, list := range on {
		slices.Sort(list)
		for part := range slices.Chunk(list, api.Region) {
			regions = append(regions, region(device, part...))
		}
	}
	return regions
}

// wantWords holds Regions and First of all devices against the chapter's words.
func wantWords(t *testing.T, addrs []int) {
	if !wordRight(addrs) {
		wantNoRegions(t, addrs...)
		return
	}
	regions := wordRegions(addrs)
	wantRegions(t, addrs, regions...)
	for device := range api.MaxDevices {
		var first []int
		for _, r := range slices.Backward(regions) {
			if r.Device == device {
				first = r.Addrs
			}
		}
		wantFirst(t, device, addrs, first...)
	}
	wantNoFirst(t, -1, addrs, api.ErrRange)
	wantNoFirst(t, api.MaxDevices, addrs, api.ErrRange)
}

// eachList hands over all lists of up to so many of the values.
func eachList(values []int, longest int, list []int, do func([]int)) {
	do(list)
	if len(list) == longest {
		return
	}
	for _, v := range values {
		eachList(values, longest, append(slices.Clone(list), v), do)
	}
}

// TestP17_1AllShortLists goes through all lists of up to four of a few numbers: in all orders, with some twice, with some that are no addresses.
func TestP17_1AllShortLists(t *testing.T) {
	values := []int{0, 1, 2, 4095, 4096, 8191, past - 1, past}
	eachList(values, 4, nil, func(list []int) { wantWords(t, list) })
}

// TestP17_1AllChoices goes through all choices of some addresses of four devices, rising, falling and leaping.
func TestP17_1AllChoices(t *testing.T) {
	from := []int{1, 2, 4093, 4094, 4095, 4096, 4097, 4098, 5000, 8191, 8192, past - 1}
	for chosen := range 1 << len(from) {
		var list []int
		for i, addr := range from {
			if chosen>>i&1 == 1 {
				list = append(list, addr)
			}
		}
		wantWords(t, list)
		slices.Reverse(list)
		wantWords(t, list)
		half := len(list) / 2
		wantWords(t, slices.Concat(list[half:], list[:half]))
	}
}

// numbers are numbers that look as if they came by chance, the same ones each time.
type numbers uint64

// below is the next number, from 0 to below the limit.
func (n *numbers) below(limit int) int {
	*n = *n*6364136223846793005 + 1442695040888963407
	return int(uint64(*n>>33) % uint64(limit))
}

// TestP17_1LongLists has longer lists, most of which are right, over few or many devices.
func TestP17_1LongLists(t *testing.T) {
	n := numbers(17)
	for range 600 {
		devices, sectors := 1+n.below(api.MaxDevices), 50+n.below(api.MaxSectors-50)
		used := map[int]int{}
		var list []int
		for range n.below(120) {
			addr := n.below(devices)*api.MaxSectors + 1 + n.below(sectors)
			if used[addr] == 0 || n.below(40) == 0 {
				list = append(list, addr)
			}
			used[addr]++
		}
		wantWords(t, list)
	}
}
