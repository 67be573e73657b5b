package script_test

import (
	"math"
	"math/rand"
	"slices"
	"strings"
	"testing"

	"portage/api"
	"portage/script"
)

// wantShow demands that lines have this text.
func wantShow(t *testing.T, want string, lines ...script.Line) {
	t.Helper()
	got, err := script.Show(lines...)
	if err != nil || got != want {
		t.Fatalf("Show(%v): %s, %v, not %s", lines, short(got), err, short(want))
	}
}

// wantRefused demands that Show refuses lines, and that Run does so, too, ahead of anything else.
func wantRefused(t *testing.T, lines ...script.Line) {
	t.Helper()
	text, err := script.Show(lines...)
	if text != "" {
		t.Fatalf("Show(%v): %q", lines, text)
	}
	wantCode(t, "Show", err, api.ErrForm)
	for _, sizes := range [][]int{{50, 50}, {}, {0}, {2}, {50, 5000}, slices.Repeat([]int{50}, 9)} {
		answers, err := script.Run(sizes, lines...)
		if len(answers) != 0 {
			t.Fatalf("Run(%v, %v): %v", sizes, lines, answers)
		}
		wantCode(t, "Run", err, api.ErrForm)
	}
}

// wantRefusedAmong demands that a line is refused alone, first, in the midst and last.
func wantRefusedAmong(t *testing.T, wrong script.Line) {
	t.Helper()
	good := []script.Line{line("create", 1, 100), line("flush")}
	wantRefused(t, wrong)
	wantRefused(t, wrong, good[0])
	wantRefused(t, good[0], wrong, good[1])
	wantRefused(t, good[0], good[1], wrong)
}

// TestP21_2Examples has the chapter's examples.
func TestP21_2Examples(t *testing.T) {
	wantShow(t, "create 1 100\nwrite 1 5 7 2\nread 1 5 3\nread 2 0 1\nmove\n",
		line("create", 1, 100), line("write", 1, 5, 7, 2), line("read", 1, 5, 3), line("read", 2, 0, 1), line("move"))
}

// TestP21_2Empty demands that no lines have an empty text.
func TestP21_2Empty(t *testing.T) {
	wantShow(t, "")
	wantShow(t, "", []script.Line{}...)
	wantShow(t, "flush\nflush\n", script.Line{Word: "flush"}, script.Line{Word: "flush", Numbers: []int{}})
}

// TestP21_2Words has each word with each count of numbers.
func TestP21_2Words(t *testing.T) {
	for _, w := range words {
		for count := range 70 {
			l := line(w.name, upTo(count*7, count)...)
			if count >= w.least && count <= w.most {
				wantShow(t, textOf(l), l)
				wantShow(t, "move\n"+textOf(l)+"flush\n", line("move"), l, line("flush"))
				continue
			}
			wantRefusedAmong(t, l)
		}
	}
}

// TestP21_2WrongWords has words that are none, with any count of numbers.
func TestP21_2WrongWords(t *testing.T) {
	wrong := slices.Clone(wrongWords)
	for _, w := range words {
		wrong = append(wrong, strings.ToUpper(w.name), w.name+" ", " "+w.name, w.name+"\n", "\n"+w.name, w.name+" 1", w.name+"\nmove", w.name+w.name, w.name[:len(w.name)-1])
	}
	for _, name := range wrong {
		for count := range 5 {
			wantRefusedAmong(t, line(name, upTo(1, count)...))
		}
	}
	wantRefused(t, script.Line{})
	wantRefused(t, line(strings.Repeat("x", 1<<20)))
}

// TestP21_2Numbers has numbers at each place that may be and that may not.
func TestP21_2Numbers(t *testing.T) {
	right := []int{0, 1, 9, 10, 255, 256, 1 << 20, greatest - 1, greatest}
	wrong := []int{math.MinInt, math.MinInt + 1, math.MinInt32, -greatest, -2, -1, greatest + 1, greatest + 2, math.MaxInt32, 1 << 31, 1 << 32, 1<<32 + 1, 1 << 62, math.MaxInt - 1, math.MaxInt}
	for _, w := range words {
		for at := range w.most {
			l := line(w.name, slices.Repeat([]int{7}, max(w.least, at+1))...)
			for _, n := range right {
				l.Numbers[at] = n
				wantShow(t, textOf(l), l)
				wantParse(t, textOf(l), l)
			}
			for _, n := range wrong {
				l.Numbers[at] = n
				wantRefused(t, l)
				wantRefused(t, line("move"), l)
			}
		}
	}
}

// TestP21_2Thousand has as many lines as a script may have, and more.
func TestP21_2Thousand(t *testing.T) {
	for _, l := range []script.Line{line("move"), line("create", greatest, 0), line("crash", upTo(0, 64)...)} {
		for _, count := range []int{999, 1000} {
			wantShow(t, strings.Repeat(textOf(l), count), slices.Repeat([]script.Line{l}, count)...)
		}
		for _, count := range []int{1001, 1002, 2000, 100000} {
			wantRefused(t, slices.Repeat([]script.Line{l}, count)...)
		}
	}
	many := slices.Repeat([]script.Line{line("move")}, 1000)
	many[999].Word = "moves"
	wantRefused(t, many...)
	wantRefused(t, append(many, line("move"))...)
}

// TestP21_2Back demands that Parse tells the lines of what Show told, and Show the text of what Parse told.
func TestP21_2Back(t *testing.T) {
	r := rand.New(rand.NewSource(212))
	for range 3000 {
		var list []script.Line
		for range r.Intn(12) {
			list = append(list, someLine(r))
		}
		text, err := script.Show(list...)
		if err != nil {
			t.Fatalf("Show(%v): %v", list, err)
		}
		wantParse(t, text, list...)
		told, _, _ := script.Parse(text)
		wantShow(t, text, told...)
	}
}
