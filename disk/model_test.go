package disk_test

import (
	"bytes"
	"slices"
	"testing"

	"portage/api"
	"portage/disk"
)

// model is a disk as the chapter's words put it: each sector's whole history since it was last for good, the first one of which is what is for good.
type model struct {
	history [][][]byte
	bad     []bool
}

func (m *model) grow(more int) {
	for range more {
		m.history = append(m.history, [][]byte{of(0)})
		m.bad = append(m.bad, false)
	}
}

func (m *model) pending() []int {
	var p []int
	for i, h := range m.history {
		if len(h) > 1 {
			p = append(p, i)
		}
	}
	return p
}

func (m *model) crash(picks []int) {
	for _, i := range m.pending() {
		pick := 0
		if len(picks) > 0 {
			pick, picks = picks[0], picks[1:]
		}
		h := m.history[i]
		m.history[i] = [][]byte{h[max(0, min(pick, len(h)-1))]}
	}
}

func (m *model) flush() int {
	n := len(m.pending())
	for i, h := range m.history {
		m.history[i] = h[len(h)-1:]
	}
	return n
}

func (m *model) fill(b []byte) {
	if len(b) == 0 {
		b = []byte{0}
	}
	all := bytes.Repeat(b, len(m.history)*api.Sector/len(b)+1)
	for i := range m.history {
		m.history[i] = [][]byte{all[i*api.Sector : (i+1)*api.Sector]}
		m.bad[i] = false
	}
}

// numbers tells numbers in an order that is always the same, and looks like none.
type numbers uint64

func (n *numbers) below(limit int) int {
	*n = *n*6364136223846793005 + 1442695040888963407
	return int(uint64(*n)>>33) % limit
}

// held compares all that a disk can tell with the model.
func held(t *testing.T, step int, d *disk.Disk, m *model) {
	t.Helper()
	if d.Size() != len(m.history) || !slices.Equal(d.Pending(), m.pending()) {
		t.Fatalf("step %d: Size %d, Pending %v, not %d, %v", step, d.Size(), d.Pending(), len(m.history), m.pending())
	}
	for i := -1; i <= len(m.history); i++ {
		b, err := d.Read(i)
		switch {
		case i < 0 || i == len(m.history):
			wantCode(t, "Read", err, api.ErrRange)
		case m.bad[i]:
			wantCode(t, "Read", err, api.ErrRead)
		default:
			h := m.history[i]
			if err != nil || !bytes.Equal(b, h[len(h)-1]) {
				t.Fatalf("step %d: Read(%d): %x, %v, not %x", step, i, b, err, h[len(h)-1])
			}
			if n := d.Waiting(i); n != len(h)-1 {
				t.Fatalf("step %d: Waiting(%d): %d, not %d", step, i, n, len(h)-1)
			}
		}
	}
}

// act does one thing to the disk and to the model alike.
func act(t *testing.T, next *numbers, d *disk.Disk, m *model) {
	t.Helper()
	switch next.below(20) {
	case 0:
		if got, want := d.Flush(), m.flush(); got != want {
			t.Fatalf("Flush: %d, not %d", got, want)
		}
	case 1, 2:
		picks := make([]int, next.below(8))
		for k := range picks {
			picks[k] = next.below(6) - 1
		}
		d.Crash(picks...)
		m.crash(picks)
	case 3, 4, 5:
		i, on := next.below(len(m.bad)+2)-1, next.below(2) == 0
		if inside := i >= 0 && i < len(m.bad); inside {
			m.bad[i] = on
		}
		d.Bad(i, on)
	case 6:
		if more := next.below(3); d.Size() < 12 && d.Grow(more) == nil {
			m.grow(more)
		}
	case 7:
		if next.below(4) == 0 {
			b := counting(next.below(200))[:next.below(api.Sector)]
			d.Fill(b)
			m.fill(b)
		}
	default:
		i, data := next.below(len(m.bad)+2)-1, counting(next.below(256))[:api.Sector-next.below(9)/8]
		inside := i >= 0 && i < len(m.bad)
		err := d.Write(i, data)
		if (err == nil) != (inside && len(data) == api.Sector) {
			t.Fatalf("Write(%d) of %d bytes: %v", i, len(data), err)
		}
		if err == nil {
			m.history[i] = append(m.history[i], data)
		}
	}
}

func TestP3_1To5AgainstAModel(t *testing.T) {
	for run := range 40 {
		next := numbers(run)
		d, m := fresh(t, 1+run%5), &model{}
		m.grow(1 + run%5)
		for step := range 500 {
			act(t, &next, d, m)
			held(t, step, d, m)
		}
	}
}
