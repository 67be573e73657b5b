package script_test

import (
	"errors"
	"slices"
	"strconv"
	"strings"
	"testing"

	"portage/api"
	"portage/fault"
	"portage/script"
)

// greatest is the greatest number of a line.
const greatest = 1 << 30

// word is a row of the chapter's table: a word, and how many numbers it has at least and at most.
type word struct {
	name        string
	least, most int
}

// words are the chapter's table.
var words = []word{
	{"create", 2, 2}, {"snap", 2, 2}, {"delete", 1, 1}, {"resize", 2, 2}, {"read", 3, 3}, {"write", 4, 4}, {"discard", 3, 3}, {"flush", 0, 0},
	{"device", 1, 1}, {"extend", 2, 2}, {"add", 1, 1}, {"grow", 1, 1}, {"evacuate", 1, 1}, {"cancel", 0, 0}, {"move", 0, 0},
	{"arm", 1, 1}, {"crash", 0, 64}, {"bad", 3, 3}, {"fill", 2, 2}, {"detach", 1, 1},
}

// wrongWords are none, though some are nearly one.
var wrongWords = []string{
	"", "Create", "CREATE", "creat", "creates", "createe", "ccreate", "reate", "snapshot", "Snap", "remove", "del", "reads", "rea", "writ", "fLush", "flush\t",
	"\tflush", "flush\r", "flush\x00", "\x00flush", "\xff", "flu\xffsh", "\xef\xbb\xbfflush", "flüsh", "ﬂush", "flush,", "flush;", "moves", "Move", "0", "1", "-", "devices", "evacuat",
	"evacuate1", "cancel ", " cancel", "can cel", "#move", "arms", "open", "format", "info", "attach", "word", "error", "ok", "crash1", "bad!", "fill0",
}

// line is a line.
func line(name string, numbers ...int) script.Line {
	return script.Line{Word: name, Numbers: numbers}
}

// upTo are so many numbers, from one on.
func upTo(from, count int) []int {
	var list []int
	for i := range count {
		list = append(list, from+i)
	}
	return list
}

// textOf is the text of a line, whatever it has.
func textOf(l script.Line) string {
	var text strings.Builder
	text.WriteString(l.Word)
	for _, n := range l.Numbers {
		text.WriteString(" " + strconv.Itoa(n))
	}
	return text.String() + "\n"
}

// sameLine tells whether two lines are equal; nil and empty numbers are one.
func sameLine(a, b script.Line) bool {
	return a.Word == b.Word && slices.Equal(a.Numbers, b.Numbers)
}

// wantCode demands that err is this code, with no fault around it.
func wantCode(t *testing.T, what string, err error, want api.Code) {
	t.Helper()
	var f *fault.Fault
	if err != error(want) || !errors.Is(err, want) || errors.As(err, &f) {
		t.Fatalf("%s: %v, not %v", what, err, want)
	}
}

// short is a text, or how it begins if it is long.
func short(text string) string {
	if len(text) > 200 {
		return strconv.Quote(text[:200]) + ".."
	}
	return strconv.Quote(text)
}

// wantParse demands that a text has just these lines.
func wantParse(t *testing.T, text string, want ...script.Line) {
	t.Helper()
	got, at, err := script.Parse(text)
	if err != nil || at != len(text) || !slices.EqualFunc(got, want, sameLine) {
		t.Fatalf("Parse(%s): %v, %d, %v, not %v", short(text), got, at, err, want)
	}
}

// wantNone demands that the first line of a text that is none is at this place.
func wantNone(t *testing.T, text string, want int) {
	t.Helper()
	got, at, err := script.Parse(text)
	if len(got) != 0 || at != want {
		t.Fatalf("Parse(%s): %d lines, %d, %v, not %d", short(text), len(got), at, err, want)
	}
	wantCode(t, "Parse", err, api.ErrLine)
}

// wantWrong demands that a line, with its newline, is none: alone, first, in the midst and last.
func wantWrong(t *testing.T, wrong string) {
	t.Helper()
	ahead := "create 1 100\nmove\n"
	wantNone(t, wrong, 0)
	wantNone(t, wrong+"flush\n", 0)
	wantNone(t, ahead+wrong+"flush\n", len(ahead))
	wantNone(t, ahead+wrong, len(ahead))
	wantNone(t, ahead+wrong+wrong, len(ahead))
}

// TestP21_1Examples has the chapter's examples.
func TestP21_1Examples(t *testing.T) {
	wantParse(t, "create 1 100\nwrite 1 5 7 2\nread 1 5 3\nread 2 0 1\nmove\n",
		line("create", 1, 100), line("write", 1, 5, 7, 2), line("read", 1, 5, 3), line("read", 2, 0, 1), line("move"))
}

// TestP21_1Empty demands that an empty text has no lines.
func TestP21_1Empty(t *testing.T) {
	wantParse(t, "")
}

// TestP21_1Words has each word with as many numbers as it has, with fewer and with more.
func TestP21_1Words(t *testing.T) {
	for _, w := range words {
		for count := range 70 {
			l := line(w.name, upTo(count*7, count)...)
			if count >= w.least && count <= w.most {
				wantParse(t, textOf(l), l)
				wantParse(t, "move\n"+textOf(l)+"flush\n", line("move"), l, line("flush"))
				continue
			}
			wantWrong(t, textOf(l))
		}
	}
}

// TestP21_1WrongWords has words that are none, with any count of numbers.
func TestP21_1WrongWords(t *testing.T) {
	for _, name := range wrongWords {
		for count := range 6 {
			wantWrong(t, textOf(line(name, upTo(1, count)...)))
		}
	}
	for _, w := range words {
		for count := range 5 {
			numbers := textOf(line("", upTo(1, count)...))
			wantWrong(t, strings.ToUpper(w.name)+numbers)
			wantWrong(t, strings.ToUpper(w.name[:1])+w.name[1:]+numbers)
			wantWrong(t, w.name+"x"+numbers)
			wantWrong(t, w.name+"0"+numbers)
			wantWrong(t, w.name[1:]+numbers)
			wantWrong(t, w.name+w.name+numbers)
			wantWrong(t, w.name+" "+w.name+numbers)
		}
	}
}

// TestP21_1Bytes puts each byte at each place of lines, in a byte's place and between two.
func TestP21_1Bytes(t *testing.T) {
	for _, good := range []string{"read 10 2 3\n", "flush\n", "crash 7 0\n"} {
		for at := range len(good) {
			for c := range 256 {
				one := string([]byte{byte(c)})
				wantReference(t, good[:at]+one+good[at+1:])
				wantReference(t, good[:at]+one+good[at:])
			}
			wantReference(t, good[:at]+good[at+1:])
			wantReference(t, good[:at])
			wantReference(t, good+good[:at])
		}
	}
}

// TestP21_1Numbers has numbers at each of a line's places, that may be and that may not.
func TestP21_1Numbers(t *testing.T) {
	right := []int{0, 1, 2, 9, 10, 11, 99, 100, 127, 128, 255, 256, 4096, 65536, 1 << 20, 99999999, 999999999, 1000000000, greatest - 1, greatest}
	wrong := []string{
		"1073741825", "1073741826", "1073741830", "1999999999", "2147483647", "2147483648", "4294967296", "4294967297", "9999999999", "10737418240", "9223372036854775807", "9223372036854775808",
		"18446744073709551615", "18446744073709551616", "18446744073709551617", "36893488147419103233", "100000000000000000000000000000000000000",
		strings.Repeat("1", 1000), strings.Repeat("9", 100000), "1" + strings.Repeat("0", 64),
		"00", "01", "007", "000", "0100", "01073741824", "0000000000000000000001", strings.Repeat("0", 1000), strings.Repeat("0", 1000) + "7",
		"+1", "-1", "+0", "-0", "--1", "+-1", "1-", "1+", "−1", "0x1", "0X1f", "0b1", "0o7", "1e3", "1E3", "1.0", "1.", ".1", "1,000", "1_000", "1_0", "_1", "1_", "a", "f", "1a", "a1", "١", "１", "½", "²",
		"", "\t1", "1\t", "\r", "1\r", "\v1", "1\f", "1\x00", "\x00", "\xff", "\u00a01", "1\u00a0", "\u20031", "NaN", "Inf", "nil", "true", "''", "\"1\"", "(1)",
	}
	for _, w := range words {
		for at := range min(w.most, 5) {
			numbers := strings.Split(strings.TrimSpace(strings.Repeat("1 ", max(w.least, at+1))), " ")
			for _, n := range right {
				numbers[at] = strconv.Itoa(n)
				l := line(w.name, slices.Repeat([]int{1}, len(numbers))...)
				l.Numbers[at] = n
				wantParse(t, w.name+" "+strings.Join(numbers, " ")+"\n", l)
			}
			for _, n := range wrong {
				numbers[at] = n
				wantWrong(t, w.name+" "+strings.Join(numbers, " ")+"\n")
			}
		}
	}
}

// TestP21_1Picks has crashes with each count of picks at the edges.
func TestP21_1Picks(t *testing.T) {
	for _, n := range []int{0, 5, greatest} {
		for _, count := range []int{0, 1, 2, 63, 64} {
			l := line("crash", slices.Repeat([]int{n}, count)...)
			wantParse(t, textOf(l), l)
		}
		for _, count := range []int{65, 66, 128, 1000, 100000} {
			wantWrong(t, textOf(line("crash", slices.Repeat([]int{n}, count)...)))
		}
	}
}

// TestP21_1Blanks has blanks where there is none, too many of them, and other white space.
func TestP21_1Blanks(t *testing.T) {
	for _, wrong := range []string{
		"create  1 100\n", "create 1  100\n", "create 1 100 \n", " create 1 100\n", "create1 100\n", "create 1100\n", "create\n", "create \n", "create  \n", "create 1 \n",
		"flush \n", " flush\n", "flush  \n", "crash \n", "crash  1\n", "crash 1 \n", " crash\n", "move \n", "move  \n",
		"create\t1 100\n", "create 1\t100\n", "create 1 100\t\n", "\tcreate 1 100\n", "create 1 100\r\n", "flush\r\n", "flush\v\n", "flush\f\n", "flush\u0085\n", "flush\u2028\n",
		"create\u00a01 100\n", "create,1,100\n", "create 1,100\n", "create:1 100\n", "create=1 100\n", " \n", "  \n", "\t\n", "\r\n", "\x00\n", "\n",
	} {
		wantWrong(t, wrong)
	}
}

// TestP21_1Newlines has texts whose last line does not end, and empty lines.
func TestP21_1Newlines(t *testing.T) {
	wantNone(t, "\n", 0)
	wantNone(t, "\n\n", 0)
	wantNone(t, "\nmove\n", 0)
	wantNone(t, "move\n\n", 5)
	wantNone(t, "move\n\nmove\n", 5)
	wantNone(t, "move", 0)
	wantNone(t, "move\nmove", 5)
	wantNone(t, "flush\nflush", 6)
	wantNone(t, "create 1\n 100\n", 0)
	wantNone(t, "move\ncreate 1\n100\n", 5)
	wantNone(t, "move\nx", 5)
	wantNone(t, "move\n ", 5)
	wantNone(t, "move\n\x00", 5)
	wantNone(t, "move\rmove\n", 0)
	wantNone(t, "move\n\rmove\n", 5)
	wantNone(t, "create 1 10", 0)
	for _, w := range words {
		text := textOf(line(w.name, upTo(0, w.least)...))
		for cut := 1; cut < len(text); cut++ {
			wantNone(t, "move\n"+text[:cut], 5)
		}
	}
}

// TestP21_1First demands that the first of several wrong lines is told.
func TestP21_1First(t *testing.T) {
	good := []string{"create 1 100\n", "flush\n", "crash 1 2 3\n", "write 1 2 3 4\n"}
	for at := range 20 {
		text, want := "", 0
		for i := range 20 {
			if i == at {
				want = len(text)
			}
			if i >= at && (i-at)%3 == 0 {
				text += "wrong 1\n"
			} else {
				text += good[i%len(good)]
			}
		}
		wantNone(t, text, want)
	}
}

// TestP21_1Thousand has as many lines as a script may have, and more.
func TestP21_1Thousand(t *testing.T) {
	lines := func(count int) []script.Line {
		var list []script.Line
		for i := range count {
			w := words[i%len(words)]
			list = append(list, line(w.name, upTo(i, w.least)...))
		}
		return list
	}
	text := func(count int) string {
		all := ""
		for _, l := range lines(count) {
			all += textOf(l)
		}
		return all
	}
	thousand := text(1000)
	wantParse(t, text(999), lines(999)...)
	wantParse(t, thousand, lines(1000)...)
	for _, behind := range []string{"move\n", "\n", "x", " ", "move", "wrong\n", "move\nmove\n", "create 1\n", thousand, "\x00\xff"} {
		wantNone(t, thousand+behind, len(thousand))
	}
	wantNone(t, text(1001), len(thousand))
	wantNone(t, text(3000), len(thousand))
	wantNone(t, text(999)+"wrong\n", len(text(999)))
	wantNone(t, text(999)+"wrong\nmove\nmove\n", len(text(999)))
	wantNone(t, text(500)+"wrong\n"+text(600), len(text(500)))
	wantNone(t, strings.Repeat("move\n", 1001), 5000)
	wantNone(t, strings.Repeat("move\n", 100000), 5000)
}

// TestP21_1Long has texts of very many bytes that are no line.
func TestP21_1Long(t *testing.T) {
	for _, part := range []string{" ", "1", "0", " 1", "crash 1 ", "m", "\x00", "\t"} {
		long := strings.Repeat(part, 1<<20)
		wantNone(t, long, 0)
		wantNone(t, long+"\n", 0)
		wantNone(t, "move\ncrash"+long+"\n", 5)
		wantNone(t, "move\ncrash "+long+"\nmove\n", 5)
	}
	wantNone(t, strings.Repeat("\n", 1<<20), 0)
}
