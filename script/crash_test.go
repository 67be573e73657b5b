package script_test

import (
	"slices"
	"strconv"
	"strings"
	"testing"

	"portage/script"
)

// TestP21_3Picks has crashes with picks, fewer and more than there are sectors that wait. What was flushed ahead is written where it is.
func TestP21_3Picks(t *testing.T) {
	many := strings.Repeat(" 1073741824", 64)
	for _, c := range []struct{ picks, want string }{
		{"", "0707"}, {" 0", "0707"}, {" 0 0", "0707"}, {" 0 0 2 2 2", "0707"},
		{" 1", "0807"}, {" 2", "0907"}, {" 3", "0907"}, {" 1073741824", "0907"}, {" 1 0", "0807"},
		{" 0 1", "0708"}, {" 0 2", "0708"}, {" 1 1", "0808"}, {" 2 1", "0908"}, {" 2 1 0", "0908"}, {" 2 1 7 7 7", "0908"}, {" 9 9", "0908"}, {many, "0908"},
	} {
		for _, power := range []string{"", "arm 0 > ok\nflush > error 22\n", "arm 0 > ok\nwrite 1 5 1 1 > error 22\n"} {
			wantPlay(t, []int{50}, `
				create 1 20 > ok
				write 1 0 7 2 > ok
				flush > ok
				write 1 0 8 1 > ok
				write 1 0 9 1 > ok
				write 1 1 8 1 > ok
				read 1 0 2 > ok 0908
				`+power+`
				crash`+c.picks+` > ok
				read 1 0 2 > ok `+c.want+`
				crash`+many+` > ok
				read 1 0 2 > ok `+c.want+`
				read 1 2 1 > ok 00`)
		}
	}
}

// TestP21_3PicksOfDevices has crashes whose picks are of two devices, the first one's first: the blocks 2 and 3 are on the device 0, the blocks 0 and 1 on the device 1.
func TestP21_3PicksOfDevices(t *testing.T) {
	for _, c := range []struct{ picks, want string }{
		{"", "01010101"}, {" 1", "01010201"}, {" 0 1", "01010102"}, {" 0 0 1", "02010101"}, {" 0 0 0 1", "01020101"},
		{" 1 1 0 0", "01010202"}, {" 0 0 1 1", "02020101"}, {" 0 1 1 0", "02010102"}, {" 1 1 1 1 1", "02020202"}, {" 0 0 0 0 1", "01010101"},
	} {
		wantPlay(t, []int{50, 50}, `
			create 1 4 > ok
			write 1 0 1 1 > ok
			write 1 1 1 1 > ok
			write 1 2 1 1 > ok
			write 1 3 1 1 > ok
			flush > ok
			write 1 0 2 4 > ok
			crash`+c.picks+` > ok
			read 1 0 4 > ok `+c.want)
	}
}

// TestP21_3OpenRefused has crashes behind which the pool cannot be opened: the one that there was stays, and answers, till one can.
func TestP21_3OpenRefused(t *testing.T) {
	const begin = `
		create 1 20 > ok
		write 1 0 7 8 > ok
		flush > ok
	`
	// A member is detached.
	wantPlay(t, []int{50, 50}, begin+`
		detach 1 > ok
		crash > error 25
		read 1 8 8 > ok 0000000000000000
		read 2 0 1 > error 90
		write 1 0 1 9 > error 93
		flush > error 25
		create 2 9 > error 25
		create 1 9 > error 91
		move > error 120
		arm 0 > ok
		crash 1 1 > error 25
		read 1 8 1 > ok 00
		crash > error 25`)
	// The power had gone, too: it answers nothing any more.
	wantPlay(t, []int{50, 50}, begin+`
		detach 1 > ok
		arm 0 > ok
		create 2 9 > error 22
		crash > error 25
		read 1 0 1 > error 22
		read 2 0 1 > error 22
		write 1 0 1 9 > error 22
		move > error 22
		flush > error 22
		device 50 > ok
		extend 0 1 > ok
		add 2 > error 22
		crash > error 25
		read 1 0 1 > error 22`)
	// No superblock can be read: that comes and goes.
	wantPlay(t, []int{50, 50}, begin+sectors(0, 0, 2, 1)+sectors(1, 0, 2, 1)+`
		crash > error 40
		read 1 0 8 > ok 0707070707070707
		write 1 0 8 8 > ok
		read 1 0 8 > ok 0808080808080808
		crash > error 40
		read 1 0 8 > ok 0707070707070707
		`+sectors(0, 0, 2, 0)+`
		crash > ok
		read 1 0 8 > ok 0707070707070707
		write 1 0 9 8 > ok
		flush > ok
		crash > ok
		read 1 0 8 > ok 0909090909090909`)
	// The devices are filled: there is no superblock, or no tree that it names.
	wantPlay(t, []int{50, 50}, begin+`
		fill 0 3 > ok
		fill 1 3 > ok
		crash > error 40
		read 1 0 8 > ok 0303030303030303
		read 1 8 1 > ok 00
		create 1 5 > error 91
		crash 1 1 1 > error 40
		crash > error 40`)
	wantPlay(t, []int{50}, begin+sectors(0, 2, 50, 1)+`
		crash > error 21
		read 1 0 1 > error 21
		read 1 8 1 > ok 00
		`+sectors(0, 2, 50, 0)+`
		crash > ok
		read 1 0 1 > ok 07`)
	// What is on the device 1 is gone, but the superblock on the device 0 counts.
	answers := run(t, []int{50, 50}, "create 1 20\nwrite 1 0 7 8\nflush\nfill 1 0\ncrash\nread 1 8 1\ncrash\n")
	if want := []string{"ok", "ok", "ok", "ok", "error 70", "ok 00", "error 70"}; !slices.Equal(answers, want) {
		t.Fatalf("%v, not %v", answers, want)
	}
}

// TestP21_3OpenAnew demands that a pool that was opened is another one: what was not durable is gone, and the mover begins anew.
func TestP21_3OpenAnew(t *testing.T) {
	wantPlay(t, []int{20, 19}, `
		create 1 9 > ok
		write 1 0 1 1 > ok
		create 2 9 > ok
		write 2 0 2 1 > ok
		evacuate 0 > ok
		move > ok 1
		move > ok 2
		crash > ok
		move > ok 1
		move > ok 2
		move > ok 3
		crash 1 1 1 1 > ok
		evacuate 0 > error 30
		evacuate 1 > error 30
		move > ok 1
		move > ok 2
		move > ok 3
		move > ok 2
		move > ok 3
		move > ok 4
		crash > ok
		move > ok 6
		crash > ok
		move > error 120
		read 1 0 1 > ok 01
		read 2 0 1 > ok 02`)
}

// asked are lines that tell what the volumes 1 to 3 have, each of 8 or 16 blocks.
const asked = "read 1 0 8\nread 1 8 8\nread 2 0 8\nread 2 8 8\nread 3 0 8\nread 3 8 8\n"

// askedCount is how many lines these are.
const askedCount = 6

// writer is a call that writes: what goes ahead of it, all of which is durable, and what is answered to it with power.
type writer struct {
	ahead, call, done string
	// commits tells that the volumes are wholly as they were or wholly as they would be, behind a crash in it.
	commits bool
}

// writers are the calls that write, and the steps of leaving a device, each of them at least once.
var writers = []writer{
	{"", "create 3 8", "ok", true},
	{"", "snap 3 1", "ok", true},
	{"", "delete 1", "ok", true},
	{"", "resize 1 8", "ok", true},
	{"", "resize 2 16", "ok", true},
	{"", "write 1 2 9 8", "ok", false},
	{"", "write 2 0 9 3", "ok", false},
	{"", "write 1 12 9 1", "ok", false},
	{"", "discard 1 3 9", "ok", false},
	{"", "flush", "ok", true},
	{"", "add 2", "ok", true},
	{"", "grow 1", "ok", true},
	{"", "evacuate 0", "ok", true},
	{"evacuate 0\n", "cancel", "ok", true},
	{"evacuate 0\n", "move", "ok 1", true},
	{"evacuate 0\nmove\n", "move", "ok 2", true},
	{"evacuate 0\nmove\nmove\n", "move", "ok 3", true},
	{"evacuate 0\nmove\nmove\n", "write 1 0 9 8", "ok", false},
	{"evacuate 0\nmove\nmove\nmove\n", "write 1 0 9 8", "ok", false},
	{"evacuate 0\n" + strings.Repeat("move\n", 9), "move", "ok 4", true},
	{"evacuate 0\n" + strings.Repeat("move\n", 10), "move", "ok 1", true},
	{"evacuate 0\n" + strings.Repeat("move\n", 18), "move", "ok 6", true},
	{"evacuate 1\n" + strings.Repeat("move\n", 24), "move", "ok 6", true},
	{"extend 2 100\nadd 2\ncreate 3 8\nevacuate 2\n", "move", "ok 5", true},
	{"extend 2 100\nadd 2\ncreate 3 8\nevacuate 2\nmove\n", "move", "ok 6", true},
}

// between tells whether what was told is, block by block, one of both. What is no block must be as in both.
func between(told, one, other string) bool {
	if len(told) != len(one) || len(told) != len(other) {
		return false
	}
	for at := range len(told) {
		if told[at] != one[at] && told[at] != other[at] {
			return false
		}
	}
	return true
}

// TestP21_3ArmEach arms the power with each small number ahead of each call that writes: it is answered as with power, or by ErrDown; in the second case all is answered by ErrDown till a crash that asks for the power; then the volumes are as they were, or as they would be.
func TestP21_3ArmEach(t *testing.T) {
	const begin = "create 1 16\nwrite 1 0 1 8\nwrite 1 8 2 4\ncreate 2 8\nwrite 2 0 3 2\nsnap 3 2\nwrite 2 4 4 2\ndelete 3\ndevice 40\nextend 1 5\n"
	sizes := []int{60, 60}
	for _, w := range writers {
		w.ahead = begin + w.ahead
		was := run(t, sizes, w.ahead+asked)
		was = was[len(was)-askedCount:]
		will := run(t, sizes, w.ahead+w.call+"\n"+asked)
		will = will[len(will)-askedCount:]
		isDone := false
		for n := 0; !isDone; n++ {
			if n > 200 {
				t.Fatalf("%s: it writes more than %d times", w.call, n)
			}
			for _, picks := range []string{"", strings.Repeat(" 1", 64), strings.Repeat(" 0 1", 32), strings.Repeat(" 5 0 0", 20)} {
				isDone = armed(t, sizes, w, "arm "+strconv.Itoa(n)+"\n", picks, was, will)
			}
		}
	}
}

// armed is one run of TestP21_3ArmEach; it tells whether the call was done.
func armed(t *testing.T, sizes []int, w writer, arm, picks string, was, will []string) bool {
	t.Helper()
	// The first lines need the power, the others do not.
	const needy = "read 1 0 1\nread 9 0 1\ncreate 7 5\nflush\nmove\ncancel\nwrite 1 0 1 1\ndiscard 1 0 1\ndevice 9\nextend 0 1\ndetach 7\nadd 9\n"
	const others = "arm 5\nbad 0 59 1\nbad 0 59 0\n"
	text := w.ahead + arm + w.call + "\n"
	at := strings.Count(text, "\n") - 1
	want := []string{run(t, sizes, text)[at]}
	isDone := want[0] == w.done
	if !isDone {
		text += needy + others
		want = slices.Repeat([]string{"error 22"}, 1+strings.Count(needy, "\n"))
		want = append(want, "ok", "ok", "ok")
	}
	want = append(want, "ok")
	answers := run(t, sizes, text+"crash"+picks+"\n"+asked)
	if got := answers[at : len(answers)-askedCount]; !slices.Equal(got, want) {
		t.Fatalf("%s%s: %v, not %v", arm, w.call, got, want)
	}
	told := answers[len(answers)-askedCount:]
	for i := range told {
		if !between(told[i], was[i], will[i]) && told[i] != was[i] && told[i] != will[i] {
			t.Fatalf("%s%s, crash%s: %v, which is neither %v nor %v", arm, w.call, picks, told, was, will)
		}
	}
	if w.commits && !slices.Equal(told, will) && (isDone || !slices.Equal(told, was)) {
		t.Fatalf("%s%s, crash%s: %v, and it was %v and would be %v", arm, w.call, picks, told, was, will)
	}
	return isDone
}

// TestP21_3Down has all lines while the power is down.
func TestP21_3Down(t *testing.T) {
	ahead := []script.Line{line("create", 1, 9), line("arm", 0), line("flush")}
	for _, w := range words {
		if w.name == "crash" {
			continue
		}
		for _, numbers := range [][]int{{0, 0, 0, 0}, {1, 5, 1, 1}, {7, 7, 7, 7}, {greatest, greatest, greatest, greatest}} {
			l := line(w.name, numbers[:w.least]...)
			answers := runLines(t, []int{50, 50}, append(slices.Clone(ahead), l, l, line("read", 1, 0, 1)))
			want := "error 22"
			switch {
			case w.name == "arm" || w.name == "bad" && numbers[0] < 2 || w.name == "fill" && numbers[0] < 2:
				want = "ok"
			case w.name == "bad" || w.name == "fill":
				want = "error 23"
			}
			if !slices.Equal(answers[2:], []string{"error 22", want, want, "error 22"}) {
				t.Fatalf("%v: %v, not %s", l, answers[3:], want)
			}
		}
	}
}
