package script_test

import (
	"strconv"
	"strings"
	"testing"
)

// sectors are rows that make the sectors of a device bad or not, from one to below another.
func sectors(device, from, to, on int) string {
	var rows strings.Builder
	for sector := from; sector < to; sector++ {
		rows.WriteString("bad " + strconv.Itoa(device) + " " + strconv.Itoa(sector) + " " + strconv.Itoa(on) + " > ok\n")
	}
	return rows.String()
}

// TestP21_3Discard has discard with each of its errors.
func TestP21_3Discard(t *testing.T) {
	wantPlay(t, []int{50, 50}, `
		discard 1 0 1 > error 90
		discard 1 0 0 > error 90
		create 1 20 > ok
		write 1 0 7 8 > ok
		discard 1 0 0 > error 92
		discard 1 0 21 > error 92
		discard 1 20 1 > error 92
		discard 1 0 1048577 > error 92
		discard 1 1073741824 1073741824 > error 92
		read 1 0 8 > ok 0707070707070707
		discard 1 2 3 > ok
		read 1 0 8 > ok 0707000000070707
		discard 1 2 3 > ok
		discard 1 0 20 > ok
		read 1 0 8 > ok 0000000000000000
		resize 1 1048576 > ok
		write 1 1048575 7 1 > ok
		discard 1 0 1048576 > ok
		read 1 1048575 1 > ok 00
		discard 1 0 1048577 > error 92
		write 1 0 7 8 > ok
		flush > ok
		arm 0 > ok
		discard 1 0 1 > error 22
		discard 9 0 1 > error 22
		crash > ok
		read 1 0 8 > ok 0707070707070707
		detach 0 > ok
		detach 1 > ok
		discard 1 0 1 > error 25`)
}

// TestP21_3Flush has flush with each of its errors.
func TestP21_3Flush(t *testing.T) {
	wantPlay(t, []int{50, 50}, `
		flush > ok
		create 1 9 > ok
		write 1 0 7 1 > ok
		flush > ok
		flush > ok
		crash > ok
		read 1 0 1 > ok 07
		arm 0 > ok
		flush > error 22
		flush > error 22
		crash > ok
		flush > ok
		detach 1 > ok
		flush > error 25
		detach 0 > ok
		flush > error 25`)
}

// TestP21_3Full has calls of small pools that have no room for what they would save.
func TestP21_3Full(t *testing.T) {
	wantPlay(t, []int{7}, `
		create 1 20 > ok
		create 2 20 > ok
		write 1 12 1 1 > ok
		write 2 2 1 1 > ok
		write 2 17 1 1 > error 50
		read 2 17 1 > ok 00`)
	wantPlay(t, []int{7}, `
		create 1 20 > ok
		write 1 12 1 1 > ok
		create 2 20 > ok
		write 2 16 1 1 > ok
		delete 2 > error 50
		read 2 16 1 > ok 01`)
	wantPlay(t, []int{3, 4}, `
		create 1 20 > ok
		write 1 3 1 1 > ok
		flush > error 50
		create 2 20 > error 50
		snap 2 1 > error 50
		read 1 3 1 > ok 01
		crash > ok
		read 1 3 1 > ok 00`)
	wantPlay(t, []int{9}, `
		device 7 > ok
		create 1 20 > ok
		add 1 > ok
		evacuate 0 > ok
		write 1 18 1 1 > ok
		move > ok 5
		write 1 19 1 1 > ok
		resize 1 4 > error 50
		read 1 18 2 > ok 0101`)
	wantPlay(t, []int{4, 5}, `
		create 1 20 > ok
		snap 2 1 > ok
		write 1 0 1 1 > ok
		write 2 2 1 1 > ok
		evacuate 0 > error 50
		cancel > error 120`)
	wantPlay(t, []int{4}, `
		device 5 > ok
		create 2 20 > ok
		add 1 > ok
		write 2 13 1 1 > ok
		snap 1 2 > ok
		discard 2 13 1 > ok
		write 1 5 1 1 > ok
		extend 1 1 > ok
		grow 1 > error 50`)
	wantPlay(t, []int{8, 12}, `
		create 1 20 > ok
		create 2 20 > ok
		write 2 0 1 1 > ok
		write 1 0 1 1 > ok
		write 2 14 1 1 > ok
		write 2 10 1 1 > ok
		evacuate 0 > ok
		write 2 1 1 1 > ok
		write 1 4 1 1 > ok
		discard 2 0 1 > error 50
		read 2 0 2 > ok 0101`)
	wantPlay(t, []int{3}, `
		device 4 > ok
		create 2 20 > ok
		add 1 > ok
		evacuate 0 > ok
		write 2 11 1 1 > ok
		cancel > error 50
		evacuate 1 > error 30`)
	wantPlay(t, []int{9}, `
		create 2 20 > ok
		write 2 6 1 1 > ok
		create 1 20 > ok
		write 2 4 1 1 > ok
		write 1 2 1 1 > ok
		device 3 > ok
		add 1 > error 50
		grow 1 > error 23`)
}

// TestP21_3Device has device with each of its errors.
func TestP21_3Device(t *testing.T) {
	wantPlay(t, []int{50, 50}, `
		device 0 > error 20
		device 4097 > error 20
		device 1073741824 > error 20
		device 1 > ok
		device 4096 > ok
		4x device 3 > ok
		device 50 > error 24
		device 0 > error 24
		detach 2 > ok
		device 50 > error 24`)
	wantPlay(t, []int{50}, `
		arm 0 > ok
		device 50 > ok
		flush > error 22
		device 50 > error 22
		device 0 > error 22
		crash > ok
		device 50 > ok
		extend 2 1 > ok
		extend 3 1 > error 23`)
}

// TestP21_3Extend has extend with each of its errors.
func TestP21_3Extend(t *testing.T) {
	wantPlay(t, []int{50, 50}, `
		extend 2 5 > error 23
		extend 1073741824 5 > error 23
		extend 1 0 > error 20
		extend 1 4047 > error 20
		extend 1 1073741824 > error 20
		extend 1 4046 > ok
		extend 1 1 > error 20
		extend 0 1 > ok
		grow 0 > ok
		grow 0 > error 20
		grow 1 > ok
		arm 0 > ok
		extend 0 1 > ok
		flush > error 22
		extend 0 1 > error 22
		extend 9 1 > error 22
		crash > ok
		grow 0 > ok
		detach 1 > ok
		extend 1 1 > error 25
		extend 1 0 > error 25`)
}

// TestP21_3Add has add with each of its errors.
func TestP21_3Add(t *testing.T) {
	wantPlay(t, []int{50}, `
		add 0 > error 23
		add 1 > error 23
		add 1073741824 > error 23
		device 2 > ok
		add 0 > error 23
		add 2 > error 23
		add 1 > error 20
		extend 1 1 > ok
		add 1 > ok
		add 1 > error 23
		add 2 > error 23
		device 3 > ok
		device 3 > ok
		add 3 > error 23
		detach 2 > ok
		add 2 > error 20
		add 3 > error 23`)
	wantPlay(t, []int{50, 50, 50, 50, 50, 50, 50}, `
		device 50 > ok
		arm 0 > ok
		add 9 > error 23
		add 7 > error 22
		add 9 > error 22
		crash > ok
		add 7 > ok
		add 8 > error 24
		add 0 > error 24
		grow 7 > error 20
		evacuate 7 > ok`)
	wantPlay(t, []int{50, 50}, `
		device 50 > ok
		detach 1 > ok
		add 2 > error 25
		grow 2 > error 23`)
}

// TestP21_3Grow has grow with each of its errors.
func TestP21_3Grow(t *testing.T) {
	wantPlay(t, []int{50, 50}, `
		grow 2 > error 23
		grow 1073741824 > error 23
		grow 0 > error 20
		grow 1 > error 20
		device 50 > ok
		grow 2 > error 23
		extend 1 7 > ok
		grow 0 > error 20
		grow 1 > ok
		extend 0 1 > ok
		arm 0 > ok
		grow 1 > error 20
		grow 0 > error 22
		grow 9 > error 22
		crash > ok
		grow 0 > ok
		evacuate 0 > ok
		extend 0 1 > ok
		grow 0 > ok
		move > ok 6
		extend 0 1 > ok
		grow 0 > error 30
		extend 1 1 > ok
		detach 0 > ok
		grow 0 > error 30
		grow 1 > ok
		detach 1 > ok
		grow 1 > error 20`)
	wantPlay(t, []int{50, 50}, `
		extend 1 1 > ok
		detach 0 > ok
		grow 1 > error 25
		grow 0 > error 20`)
}

// TestP21_3Room demands that devices that come or grow raise the room: blocks that had none have one then.
func TestP21_3Room(t *testing.T) {
	wantPlay(t, []int{12}, `
		create 1 100 > ok
		write 1 0 1 8 > error 50
		device 30 > ok
		write 1 0 1 8 > error 50
		add 1 > ok
		write 1 0 1 8 > ok
		read 1 0 8 > ok 0101010101010101`)
	wantPlay(t, []int{12}, `
		create 1 100 > ok
		write 1 0 1 8 > error 50
		extend 0 10 > ok
		write 1 0 1 8 > error 50
		grow 0 > ok
		write 1 0 1 8 > ok
		read 1 0 8 > ok 0101010101010101`)
}

// TestP21_3Evacuate has evacuate and cancel with each of their errors.
func TestP21_3Evacuate(t *testing.T) {
	wantPlay(t, []int{50, 50, 50}, `
		cancel > error 120
		evacuate 3 > error 23
		evacuate 1073741824 > error 23
		evacuate 0 > ok
		evacuate 0 > error 30
		evacuate 3 > error 23
		evacuate 1 > error 100
		cancel > ok
		cancel > error 120
		evacuate 1 > ok
		arm 0 > ok
		evacuate 1 > error 30
		cancel > error 22
		evacuate 1 > error 22
		move > error 22
		crash > ok
		evacuate 2 > error 100
		move > ok 6
		cancel > error 120
		evacuate 1 > error 30
		arm 0 > ok
		evacuate 2 > error 22
		crash > ok
		evacuate 2 > ok
		evacuate 0 > error 30
		cancel > ok
		evacuate 0 > ok
		detach 2 > ok
		cancel > error 25
		evacuate 2 > error 30`)
	wantPlay(t, []int{50}, `
		evacuate 0 > error 30
		evacuate 1 > error 23
		move > error 120`)
	wantPlay(t, []int{50, 50}, `
		detach 1 > ok
		evacuate 0 > error 25
		evacuate 1 > error 25
		cancel > error 120`)
}

// TestP21_3Moves tells what each move did, while the block that is copied is written.
func TestP21_3Moves(t *testing.T) {
	wantPlay(t, []int{20, 19}, `
		create 1 9 > ok
		write 1 0 1 1 > ok
		create 2 9 > ok
		write 2 0 2 1 > ok
		move > error 120
		evacuate 0 > ok
		move > ok 1
		move > ok 2
		move > ok 3
		move > ok 2
		move > ok 3
		move > ok 4
		read 1 0 1 > ok 01
		move > ok 6
		move > error 120
		fill 0 255 > ok
		read 1 0 1 > ok 01
		read 2 0 1 > ok 02
		detach 0 > ok
		crash > ok
		read 1 0 1 > ok 01
		read 2 0 1 > ok 02
		evacuate 0 > error 30
		evacuate 1 > error 30
		grow 0 > error 30`)
	// What is written while it is copied is read once more, or written at the copy, too.
	wantPlay(t, []int{20, 19}, `
		create 1 9 > ok
		write 1 0 1 1 > ok
		flush > ok
		evacuate 0 > ok
		move > ok 1
		move > ok 2
		write 1 0 3 1 > ok
		move > ok 2
		move > ok 3
		write 1 0 4 1 > ok
		move > ok 4
		read 1 0 1 > ok 04
		move > ok 6
		crash > ok
		read 1 0 1 > ok 04`)
	wantPlay(t, []int{50, 50}, `
		create 1 20 > ok
		write 1 0 7 1 > ok
		evacuate 0 > ok
		move > ok 5
		move > ok 6
		move > error 120
		read 1 0 1 > ok 07`)
}

// TestP21_3MoveErrors has move with each of its errors.
func TestP21_3MoveErrors(t *testing.T) {
	wantPlay(t, []int{3, 12}, `
		create 1 20 > ok
		write 1 3 1 1 > ok
		evacuate 1 > ok
		3x move > error 121
		read 1 3 1 > ok 01
		device 40 > ok
		add 2 > ok
		move > ok 1
		cancel > ok
		move > error 120`)
	wantPlay(t, []int{8, 11}, `
		create 2 20 > ok
		evacuate 1 > ok
		create 1 20 > ok
		write 1 16 1 1 > ok
		write 2 7 1 1 > ok
		2x move > error 50
		read 2 7 1 > ok 01`)
	begin := "create 1 9 > ok\nwrite 1 0 1 1 > ok\ncreate 2 9 > ok\nwrite 2 0 2 1 > ok\nevacuate 0 > ok\nmove > ok 1\n"
	wantPlay(t, []int{20, 19}, begin+sectors(0, 2, 20, 1)+`
		2x move > error 21
		read 1 0 1 > error 21
		`+sectors(0, 2, 20, 0)+`
		move > ok 2
		arm 0 > ok
		move > error 22
		move > error 22
		cancel > error 22
		crash > ok
		move > ok 1
		cancel > ok
		read 1 0 1 > ok 01
		read 2 0 1 > ok 02`)
	wantPlay(t, []int{20, 19}, begin+`
		detach 0 > ok
		2x move > error 25
		read 1 0 1 > error 25`)
	wantPlay(t, []int{20, 19}, begin+`
		move > ok 2
		detach 1 > ok
		2x move > error 25
		read 1 0 1 > ok 01`)
}

// TestP21_3Bad has bad with each of its errors, also while the power is down.
func TestP21_3Bad(t *testing.T) {
	const rows = `
		bad 2 0 1 > error 23
		bad 1073741824 0 1 > error 23
		bad 0 50 1 > error 20
		bad 0 1073741824 1 > error 20
		bad 0 49 1 > ok
		bad 0 49 0 > ok
		bad 0 0 1073741824 > ok
		bad 0 0 0 > ok
		bad 2 50 0 > error 23`
	wantPlay(t, []int{50, 50}, rows+`
		detach 0 > ok
		bad 0 0 1 > error 25
		bad 0 50 1 > error 25`)
	wantPlay(t, []int{50, 50}, "arm 0 > ok\nflush > error 22\n"+rows+"\ncrash > ok\n")
}

// TestP21_3Fill has fill with each of its errors, also while the power is down, and what is read then.
func TestP21_3Fill(t *testing.T) {
	const rows = `
		fill 2 7 > error 23
		fill 1073741824 7 > error 23
		fill 2 1073741824 > error 23`
	wantPlay(t, []int{50, 50}, rows+`
		create 1 9 > ok
		write 1 0 7 8 > ok
		fill 0 9 > ok
		fill 1 9 > ok
		read 1 0 8 > ok 0909090909090909
		fill 0 255 > ok
		fill 1 511 > ok
		read 1 0 8 > ok ffffffffffffffff
		fill 0 256 > ok
		fill 1 1073741824 > ok
		read 1 0 8 > ok 0000000000000000
		fill 0 1073741823 > ok
		fill 1 257 > ok
		fill 0 257 > ok
		read 1 0 8 > ok 0101010101010101
		detach 1 > ok
		fill 1 7 > error 25`)
	wantPlay(t, []int{50, 50}, "create 1 9 > ok\nwrite 1 0 7 8 > ok\narm 0 > ok\nflush > error 22\n"+rows+`
		fill 0 9 > ok
		fill 1 9 > ok
		read 1 0 8 > error 22
		crash > error 40
		read 1 0 8 > error 22`)
	// It mends bad sectors.
	wantPlay(t, []int{50}, "create 1 9 > ok\nwrite 1 0 7 8 > ok\n"+sectors(0, 0, 50, 1)+"read 1 0 8 > error 21\nfill 0 9 > ok\nread 1 0 8 > ok 0909090909090909\n")
}

// TestP21_3Detach has detach with each of its errors.
func TestP21_3Detach(t *testing.T) {
	wantPlay(t, []int{50, 50}, `
		detach 2 > error 23
		detach 1073741824 > error 23
		create 1 9 > ok
		write 1 0 7 8 > ok
		arm 0 > ok
		flush > error 22
		detach 0 > error 22
		detach 2 > error 22
		crash > ok
		detach 0 > ok
		detach 0 > error 25
		detach 1 > ok
		detach 1 > error 25
		write 1 0 7 8 > error 25
		device 50 > ok
		detach 2 > ok
		detach 2 > error 25
		read 1 0 8 > ok 0000000000000000`)
}

// TestP21_3Arm demands that the power goes at the write behind those that it is armed with, and that arming it anew counts anew.
func TestP21_3Arm(t *testing.T) {
	wantPlay(t, []int{50}, `
		create 1 20 > ok
		arm 3 > ok
		write 1 0 1 1 > ok
		arm 1073741824 > ok
		write 1 1 2 8 > ok
		flush > ok
		arm 0 > ok
		read 1 0 8 > ok 0102020202020202
		arm 1 > ok
		write 1 0 3 2 > error 22
		arm 9 > ok
		arm 1073741824 > ok
		read 1 0 1 > error 22
		crash > ok
		read 1 0 2 > ok 0102
		write 1 0 3 8 > ok
		flush > ok
		read 1 0 8 > ok 0303030303030303`)
}
