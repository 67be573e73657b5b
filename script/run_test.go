package script_test

import (
	"errors"
	"reflect"
	"slices"
	"strconv"
	"strings"
	"testing"

	"portage/api"
	"portage/bank"
	"portage/fault"
	"portage/pool"
	"portage/script"
)

// run tells what is answered to the lines of a text, and demands that it is not refused, that there is an answer to each line, and that it is the same once more and by hand.
func run(t *testing.T, sizes []int, text string) []string {
	t.Helper()
	lines, at, err := script.Parse(text)
	if err != nil {
		t.Fatalf("Parse: %d, %v: %s", at, err, short(text[at:]))
	}
	return runLines(t, sizes, lines)
}

// runLines is run of lines.
func runLines(t *testing.T, sizes []int, lines []script.Line) []string {
	t.Helper()
	answers, err := script.Run(sizes, lines...)
	if err != nil || len(answers) != len(lines) {
		t.Fatalf("Run of %d lines: %d answers, %v", len(lines), len(answers), err)
	}
	again, err := script.Run(sizes, lines...)
	if err != nil || !slices.Equal(again, answers) {
		t.Fatalf("Run tells something else the second time: %v, %v", again, err)
	}
	for i, want := range byHand(t, sizes, lines) {
		if answers[i] != want {
			t.Fatalf("%v, the line %d of %v, %v: %q, and by hand %q", lines[i], i, sizes, lines[:i], answers[i], want)
		}
	}
	return answers
}

// wantPlay runs a text whose rows are each a line, ` > ` and its answer. A row may be preceded by a count and `x`: it comes so often.
func wantPlay(t *testing.T, sizes []int, rows string) {
	t.Helper()
	var text strings.Builder
	var want []string
	for row := range strings.Lines(rows) {
		row = strings.TrimSpace(row)
		if row == "" {
			continue
		}
		times := 1
		if count, rest, ok := strings.Cut(row, "x "); ok {
			if n, err := strconv.Atoi(count); err == nil {
				times, row = n, rest
			}
		}
		one, answer, ok := strings.Cut(row, " > ")
		if !ok {
			t.Fatalf("the row %q has no answer", row)
		}
		for range times {
			text.WriteString(one + "\n")
			want = append(want, answer)
		}
	}
	for i, got := range run(t, sizes, text.String()) {
		if got != want[i] {
			t.Fatalf("the line %d of\n%s%v: %q, not %q", i, text.String(), sizes, got, want[i])
		}
	}
}

// TestP21_3Examples has the chapter's examples.
func TestP21_3Examples(t *testing.T) {
	wantPlay(t, []int{50, 50}, `
		create 1 100 > ok
		write 1 5 7 2 > ok
		read 1 5 3 > ok 070700
		read 2 0 1 > error 90
		move > error 120`)
}

// TestP21_3Whole has the ten examples of the whole.
func TestP21_3Whole(t *testing.T) {
	wantPlay(t, []int{50, 50}, `
		create 1 100 > ok
		create 1 5 > error 91
		write 1 5 10 1 > ok
		snap 2 1 > ok
		write 1 5 11 1 > ok
		read 2 5 1 > ok 0a
		read 1 5 1 > ok 0b
		write 1 99 1 2 > error 92
		read 3 0 1 > error 90
		write 1 7 12 1 > ok
		crash > ok
		read 1 7 1 > ok 00
		write 1 7 12 1 > ok
		flush > ok
		crash > ok
		read 1 7 1 > ok 0c
		evacuate 0 > ok
		evacuate 1 > error 30
		cancel > ok
		device 30 > ok
		add 2 > ok
		extend 2 5 > ok
		grow 2 > ok
		grow 2 > error 20
		read 2 5 1 > ok 0a
		read 1 5 3 > ok 0a000c`)
}

// TestP21_3Form demands that lines that Show refuses are refused ahead of wrong sizes: wantRefused has those.
func TestP21_3Form(t *testing.T) {
	wantRefused(t, line("moves"))
	wantRefused(t, line("move", 1))
	wantRefused(t, line("create", 1, -1))
	wantRefused(t, line("create", 1, greatest+1))
	wantRefused(t, slices.Repeat([]script.Line{line("move")}, 1001)...)
	if answers, err := script.Run([]int{50}, slices.Repeat([]script.Line{line("move")}, 1000)...); err != nil || len(answers) != 1000 {
		t.Fatalf("Run of 1000 lines: %d, %v", len(answers), err)
	}
}

// made is the error of making a bank with devices of these sizes, and a pool of it.
func made(sizes []int) error {
	b := bank.New()
	for _, size := range sizes {
		if _, err := b.Add(size); err != nil {
			return err
		}
	}
	_, err := pool.Format(b)
	return err
}

// TestP21_3Sizes has sizes that make no bank, or no pool: which error, and whose it is.
func TestP21_3Sizes(t *testing.T) {
	for _, c := range []struct {
		sizes []int
		want  api.Code
	}{
		{nil, api.ErrRange}, {[]int{}, api.ErrRange},
		{[]int{0}, api.ErrRange}, {[]int{-1}, api.ErrRange}, {[]int{4097}, api.ErrRange}, {[]int{-1 << 63}, api.ErrRange}, {[]int{1<<63 - 1}, api.ErrRange},
		{[]int{1}, api.ErrRange}, {[]int{2}, api.ErrRange}, {[]int{50, 2}, api.ErrRange}, {[]int{2, 50}, api.ErrRange}, {[]int{50, 0}, api.ErrRange}, {[]int{50, 50, 50, 1, 50}, api.ErrRange},
		{slices.Repeat([]int{50}, 9), api.ErrMany}, {slices.Repeat([]int{1}, 9), api.ErrMany}, {slices.Repeat([]int{4096}, 10), api.ErrMany},
		{append(slices.Repeat([]int{50}, 8), 0), api.ErrMany}, {append(slices.Repeat([]int{50}, 8), 5000), api.ErrMany},
		{append([]int{0}, slices.Repeat([]int{50}, 8)...), api.ErrRange}, {append(slices.Repeat([]int{50}, 7), 0, 50), api.ErrRange}, {slices.Repeat([]int{0}, 100000), api.ErrRange},
		{append([]int{2, 50, 5000}, 50), api.ErrRange},
	} {
		for _, lines := range [][]script.Line{nil, {line("move")}, {line("create", 1, 1), line("flush"), line("crash")}} {
			answers, err := script.Run(c.sizes, lines...)
			if len(answers) != 0 || !errors.Is(err, c.want) || !reflect.DeepEqual(err, made(c.sizes)) {
				t.Fatalf("Run(%v): %v, %v, not %v", c.sizes, answers, err, made(c.sizes))
			}
			if code, ok := fault.CodeOf(err); !ok || code != c.want {
				t.Fatalf("Run(%v): %v, not %v", c.sizes, err, c.want)
			}
		}
	}
}

// TestP21_3Order demands that of several wrong sizes the bank's error is told, though the pool would refuse an earlier one.
func TestP21_3Order(t *testing.T) {
	_, err := script.Run([]int{2, 0})
	if err == nil || err.Error() != "add 1:0: portage: error 20" {
		t.Fatalf("Run: %v", err)
	}
	_, err = script.Run([]int{2, 50})
	wantCode(t, "Run", err, api.ErrRange)
}

// TestP21_3RightSizes has sizes at the edges of what makes a pool.
func TestP21_3RightSizes(t *testing.T) {
	for _, sizes := range [][]int{{3}, {4096}, {3, 3}, {3, 4096}, slices.Repeat([]int{3}, 8), slices.Repeat([]int{4096}, 8)} {
		answers, err := script.Run(sizes)
		if len(answers) != 0 || err != nil {
			t.Fatalf("Run(%v): %v, %v", sizes, answers, err)
		}
		answers, err = script.Run(sizes, line("flush"), line("crash"))
		if !slices.Equal(answers, []string{"ok", "ok"}) || err != nil {
			t.Fatalf("Run(%v): %v, %v", sizes, answers, err)
		}
	}
}

// TestP21_3Anew demands that each Run begins with a pool of its own.
func TestP21_3Anew(t *testing.T) {
	for range 3 {
		wantPlay(t, []int{50}, `
			create 1 5 > ok
			device 50 > ok
			arm 0 > ok
			flush > error 22`)
	}
}

// TestP21_3Create has create with each of its errors.
func TestP21_3Create(t *testing.T) {
	wantPlay(t, []int{50, 50}, `
		create 0 5 > error 90
		create 1048577 5 > error 90
		create 1073741824 5 > error 90
		create 1048577 0 > error 90
		create 1 0 > error 92
		create 1 1048577 > error 92
		create 1 1073741824 > error 92
		create 1048576 1048576 > ok
		create 1048576 0 > error 92
		create 1048576 5 > error 91
		create 1 1 > ok
		read 1 0 1 > ok 00
		read 1 1 1 > error 92
		read 1048576 1048575 1 > ok 00
		detach 1 > ok
		create 2 5 > error 25
		create 1 5 > error 91
		read 2 0 1 > error 90`)
	wantPlay(t, []int{50, 50}, `
		arm 0 > ok
		create 2 5 > error 22
		create 0 0 > error 22`)
	full := "create 99 5 > ok\n"
	for id := range 31 {
		full += "create " + strconv.Itoa(id+1) + " 5 > ok\n"
	}
	wantPlay(t, []int{200}, full+`
		create 50 5 > error 24
		snap 50 99 > error 24
		create 99 5 > error 91
		snap 1 99 > error 91
		delete 7 > ok
		create 50 5 > ok
		create 51 5 > error 24`)
	wantPlay(t, []int{3}, `
		create 1 5 > ok
		create 2 5 > error 50
		read 2 0 1 > error 90`)
}

// TestP21_3Snap has snap with each of its errors.
func TestP21_3Snap(t *testing.T) {
	wantPlay(t, []int{50, 50}, `
		create 1 9 > ok
		write 1 0 5 3 > ok
		snap 0 1 > error 90
		snap 1048577 1 > error 90
		snap 2 9 > error 90
		snap 2 0 > error 90
		snap 1 1 > error 91
		snap 2 1 > ok
		snap 2 1 > error 91
		snap 2 9 > error 90
		write 2 1 6 1 > ok
		snap 1048576 2 > ok
		delete 1 > ok
		read 1 0 1 > error 90
		read 2 0 4 > ok 05060500
		read 1048576 0 4 > ok 05060500
		snap 3 1 > error 90
		detach 0 > ok
		snap 3 2 > error 25
		read 3 0 1 > error 90`)
	wantPlay(t, []int{50, 50}, `
		create 1 9 > ok
		arm 0 > ok
		snap 2 1 > error 22
		snap 2 9 > error 22
		read 1 0 1 > error 22`)
	wantPlay(t, []int{3}, `
		create 1 5 > ok
		snap 2 1 > error 50`)
}

// TestP21_3Delete has delete with each of its errors.
func TestP21_3Delete(t *testing.T) {
	wantPlay(t, []int{50, 50}, `
		delete 1 > error 90
		delete 0 > error 90
		delete 1073741824 > error 90
		create 1 9 > ok
		write 1 0 5 3 > ok
		delete 1 > ok
		delete 1 > error 90
		create 1 9 > ok
		read 1 0 3 > ok 000000
		detach 1 > ok
		delete 1 > error 25
		delete 2 > error 90
		read 1 0 1 > ok 00`)
	wantPlay(t, []int{50, 50}, `
		create 1 9 > ok
		arm 0 > ok
		delete 2 > error 90
		delete 1 > error 22
		delete 2 > error 22`)
}

// TestP21_3Resize has resize with each of its errors.
func TestP21_3Resize(t *testing.T) {
	wantPlay(t, []int{50, 50}, `
		resize 1 5 > error 90
		resize 1 0 > error 90
		create 1 9 > ok
		write 1 6 5 3 > ok
		resize 1 0 > error 92
		resize 1 1048577 > error 92
		resize 1 1073741824 > error 92
		resize 1 1048576 > ok
		read 1 6 4 > ok 05050500
		resize 1 7 > ok
		read 1 6 1 > ok 05
		read 1 6 2 > error 92
		resize 1 9 > ok
		read 1 6 3 > ok 050000
		detach 1 > ok
		resize 1 4 > error 25
		resize 1 0 > error 92
		resize 2 4 > error 90`)
	wantPlay(t, []int{50, 50}, `
		create 1 9 > ok
		arm 0 > ok
		resize 1 0 > error 92
		resize 1 4 > error 22
		resize 1 0 > error 22`)
}

// TestP21_3Read has read of one block and of eight, of blocks that were never written, and each of its errors.
func TestP21_3Read(t *testing.T) {
	wantPlay(t, []int{50}, `
		read 1 0 1 > error 90
		read 1 0 0 > error 90
		create 1 20 > ok
		read 1 0 1 > ok 00
		read 1 0 8 > ok 0000000000000000
		read 1 12 8 > ok 0000000000000000
		read 1 0 0 > error 92
		read 1 0 9 > error 92
		read 1 0 1073741824 > error 92
		read 1 13 8 > error 92
		read 1 20 1 > error 92
		read 1 1073741824 1 > error 92
		read 1 1073741824 1073741824 > error 92
		write 1 0 1 1 > ok
		write 1 1 15 1 > ok
		write 1 2 16 1 > ok
		write 1 3 171 1 > ok
		write 1 4 205 1 > ok
		write 1 5 239 1 > ok
		write 1 7 255 1 > ok
		read 1 0 8 > ok 010f10abcdef00ff
		read 1 7 1 > ok ff
		read 1 6 1 > ok 00
		read 1 5 3 > ok ef00ff
		read 2 0 8 > error 90
		arm 0 > ok
		write 1 0 1 1 > error 22
		read 1 0 1 > error 22`)
}

// TestP21_3BadSectors makes all sectors of the room bad: what is mapped cannot be read any more, though it can be written.
func TestP21_3BadSectors(t *testing.T) {
	rows := "create 1 20 > ok\nwrite 1 0 7 8 > ok\n"
	for sector := 2; sector < 50; sector++ {
		rows += "bad 0 " + strconv.Itoa(sector) + " 1073741824 > ok\n"
	}
	rows += "read 1 0 1 > error 21\nread 1 7 8 > error 21\nread 1 8 8 > ok 0000000000000000\nwrite 1 0 8 8 > ok\nread 1 0 1 > error 21\n"
	for sector := 2; sector < 50; sector++ {
		rows += "bad 0 " + strconv.Itoa(sector) + " 0 > ok\n"
	}
	wantPlay(t, []int{50}, rows+"read 1 0 8 > ok 0808080808080808\nread 1 7 2 > ok 0800\n")
}

// TestP21_3Write has write of each count and fill, and each of its errors.
func TestP21_3Write(t *testing.T) {
	wantPlay(t, []int{50, 50}, `
		write 1 0 7 1 > error 90
		write 1 0 7 0 > error 90
		write 1 0 7 9 > error 90
		create 1 20 > ok
		write 1 0 7 0 > error 93
		write 1 0 7 9 > error 93
		write 1 0 7 10 > error 93
		write 1 0 7 1073741824 > error 93
		write 1 20 7 0 > error 93
		write 1 20 7 9 > error 93
		write 1 1073741824 1073741824 1073741824 > error 93
		read 1 0 8 > ok 0000000000000000
		write 1 20 7 1 > error 92
		write 1 13 7 8 > error 92
		write 1 1073741824 7 1 > error 92
		read 1 12 8 > ok 0000000000000000
		write 1 12 7 8 > ok
		read 1 12 8 > ok 0707070707070707
		write 1 0 255 1 > ok
		write 1 1 256 1 > ok
		write 1 2 257 2 > ok
		write 1 4 1073741824 1 > ok
		write 1 5 1073741823 1 > ok
		write 1 6 511 2 > ok
		read 1 0 8 > ok ff00010100ffffff
		detach 0 > ok
		detach 1 > ok
		write 1 0 1 1 > error 25`)
	wantPlay(t, []int{12}, `
		create 1 100 > ok
		write 1 0 1 8 > error 50
		read 1 0 8 > ok 0000000000000000
		write 1 0 1 1 > ok
		arm 0 > ok
		write 1 0 2 1 > error 22
		write 1 0 2 9 > error 22
		write 9 0 2 1 > error 22
		crash > ok
		read 1 0 1 > ok 00
		read 9 0 1 > error 90`)
}
