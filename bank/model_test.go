package bank_test

import (
	"bytes"
	"slices"
	"testing"

	"portage/api"
	"portage/bank"
)

// sector is all that a sector held since it was last for good, from that on.
type sector struct {
	history []byte
	bad     bool
}

// model is a bank as the chapter's words put it, with each sector full of one byte.
type model struct {
	devices [][]sector
	armed   bool
	left    int
	down    bool
	done    int
}

func fresh(n int) []sector {
	return slices.Repeat([]sector{{history: []byte{0}}}, n)
}

// refusal is the error that keeps a call from a device, 0 if nothing does.
func (m *model) refusal(device int, needsPower bool) api.Code {
	switch {
	case needsPower && m.down:
		return api.ErrDown
	case device < 0 || device >= len(m.devices):
		return api.ErrDevice
	case m.devices[device] == nil:
		return api.ErrGone
	}
	return 0
}

// count is the error of a write or flush for which the power has to hold, 0 if it does.
func (m *model) count() api.Code {
	if m.armed && m.left == 0 {
		m.down = true
		return api.ErrDown
	}
	m.left--
	m.done++
	return 0
}

func (m *model) add(n int) (int, api.Code) {
	switch {
	case m.down:
		return 0, api.ErrDown
	case len(m.devices) == api.MaxDevices:
		return 0, api.ErrMany
	case n < 1 || n > api.MaxSectors:
		return 0, api.ErrRange
	}
	m.devices = append(m.devices, fresh(n))
	return len(m.devices) - 1, 0
}

func (m *model) grow(device, more int) api.Code {
	if code := m.refusal(device, true); code != 0 {
		return code
	}
	if more < 1 {
		return api.ErrRange
	}
	m.devices[device] = append(m.devices[device], fresh(more)...)
	return 0
}

func (m *model) detach(device int) api.Code {
	code := m.refusal(device, true)
	if code == 0 {
		m.devices[device] = nil
	}
	return code
}

func (m *model) write(device, i, length int, data byte) api.Code {
	if code := m.refusal(device, true); code != 0 {
		return code
	}
	if i < 0 || i >= len(m.devices[device]) {
		return api.ErrRange
	}
	if length != api.Sector {
		return api.ErrSize
	}
	code := m.count()
	if code == 0 {
		s := &m.devices[device][i]
		s.history = append(slices.Clip(s.history), data)
	}
	return code
}

// flush tells which device ended it, and by what.
func (m *model) flush(devices []int) (int, api.Code) {
	for _, device := range devices {
		code := m.refusal(device, true)
		if code == 0 {
			code = m.count()
		}
		if code != 0 {
			return device, code
		}
		for i, s := range m.devices[device] {
			m.devices[device][i].history = s.history[len(s.history)-1:]
		}
	}
	return 0, 0
}

func (m *model) crash(picks []int) {
	for _, sectors := range m.devices {
		for i, s := range sectors {
			if len(s.history) == 1 {
				continue
			}
			pick := 0
			if len(picks) > 0 {
				pick, picks = max(0, min(picks[0], len(s.history)-1)), picks[1:]
			}
			sectors[i].history = s.history[pick : pick+1]
		}
	}
	m.down, m.armed = false, false
}

func (m *model) pending() int {
	n := 0
	for _, sectors := range m.devices {
		for _, s := range sectors {
			if len(s.history) > 1 {
				n++
			}
		}
	}
	return n
}

func (m *model) mark(device, i int, on bool) api.Code {
	if code := m.refusal(device, false); code != 0 {
		return code
	}
	if i < 0 || i >= len(m.devices[device]) {
		return api.ErrRange
	}
	m.devices[device][i].bad = on
	return 0
}

func (m *model) fill(device int, data byte) api.Code {
	code := m.refusal(device, false)
	if code == 0 {
		for i := range m.devices[device] {
			m.devices[device][i] = sector{history: []byte{data}}
		}
	}
	return code
}

// numbers tells numbers in an order that is always the same, and looks like none.
type numbers uint64

func (n *numbers) below(limit int) int {
	*n = *n*6364136223846793005 + 1442695040888963407
	return int(uint64(*n)>>33) % limit
}

// list is up to so many numbers from least on.
func (n *numbers) list(most, least, limit int) []int {
	list := make([]int, n.below(most+1))
	for i := range list {
		list[i] = least + n.below(limit)
	}
	return list
}

// wantAnswer demands a fault, or none if the code is 0.
func wantAnswer(t *testing.T, err error, op string, device, place int, code api.Code) {
	t.Helper()
	if code == 0 {
		must(t, op, err)
		return
	}
	wantFault(t, err, op, device, place, code)
}

// held compares all that a bank can tell with the model.
func held(t *testing.T, b *bank.Bank, m *model) {
	t.Helper()
	wantCounts(t, b, m.done, m.pending(), m.down)
	sizes := []int{}
	for device, sectors := range m.devices {
		sizes = append(sizes, len(sectors))
		for i := -1; i <= len(sectors); i++ {
			code := m.refusal(device, true)
			switch {
			case code != 0:
			case i < 0 || i == len(sectors):
				code = api.ErrRange
			case sectors[i].bad:
				code = api.ErrRead
			}
			data, err := b.Read(device, i)
			wantAnswer(t, err, "read", device, i, code)
			var want []byte
			if code == 0 {
				want = of(sectors[i].history[len(sectors[i].history)-1])
			}
			if !bytes.Equal(data, want) {
				t.Errorf("Read(%d, %d): %x, not %x", device, i, data, want)
			}
		}
	}
	wantSizes(t, b, sizes...)
}

// act does one thing to the bank and to the model alike.
func act(t *testing.T, next *numbers, b *bank.Bank, m *model) {
	t.Helper()
	device, i, data := next.below(len(m.devices)+2)-1, next.below(6)-1, byte(next.below(256))
	switch next.below(30) {
	case 0, 1:
		n, number := next.below(5), len(m.devices)
		want, code := m.add(n)
		got, err := b.Add(n)
		wantAnswer(t, err, "add", number, 0, code)
		if got != want {
			t.Errorf("Add: %d, not %d", got, want)
		}
	case 2:
		if device < len(m.devices) && device >= 0 && len(m.devices[device]) > 6 {
			return
		}
		wantAnswer(t, b.Grow(device, i), "grow", device, 0, m.grow(device, i))
	case 3:
		if next.below(3) == 0 {
			wantAnswer(t, b.Detach(device), "detach", device, 0, m.detach(device))
		}
	case 4, 5, 6, 7:
		devices := next.list(4, 0, len(m.devices)+1)
		where, code := m.flush(devices)
		wantAnswer(t, b.Flush(devices...), "flush", where, 0, code)
	case 8, 9, 10:
		picks := next.list(12, -1, 5)
		b.Crash(picks...)
		m.crash(picks)
	case 11, 12, 13:
		n := next.below(8) - 1
		b.Arm(n)
		m.armed, m.left = n >= 0, n
	case 14, 15:
		on := next.below(2) == 0
		wantAnswer(t, b.Bad(device, i, on), "bad", device, i, m.mark(device, i, on))
	case 16:
		wantAnswer(t, b.Fill(device, of(data)), "fill", device, 0, m.fill(device, data))
	default:
		content := of(data)[:api.Sector-next.below(9)/8]
		wantAnswer(t, b.Write(device, i, content), "write", device, i, m.write(device, i, len(content), data))
	}
}

func TestP4_1To4AgainstAModel(t *testing.T) {
	for run := range 60 {
		next := numbers(run)
		b, m := bank.New(), &model{}
		for step := range 400 {
			act(t, &next, b, m)
			held(t, b, m)
			if t.Failed() {
				t.Fatalf("run %d, step %d", run, step)
			}
		}
	}
}
