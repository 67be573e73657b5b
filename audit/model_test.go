package audit_test

import (
	"bytes"
	"errors"
	"maps"
	"reflect"
	"slices"
	"testing"

	"portage/api"
	"portage/audit"
	"portage/pool"
	"portage/queue"
	"portage/thin"
)

// numbers hands out numbers that leap about, the same ones each time.
type numbers uint64

// below is the next one, from 0 to below n.
func (x *numbers) below(n int) int {
	*x = *x*6364136223846793005 + 1442695040888963407
	return int(uint64(*x) >> 33 % uint64(n))
}

// The kinds of requests.
const (
	create = iota + 1
	snapshot
	remove
	resize
	read
	write
	discard
	flush
	add
	grow
	evacuate
	cancel
	move
)

// volume is a volume as layer 14 describes it, with the bytes of each mapped block.
type volume struct {
	size, origin int
	blocks       map[int]string
}

// model are volumes, by Id.
type model map[int]volume

// clone is another model that is alike.
func (m model) clone() model {
	c := model{}
	for id, v := range m {
		v.blocks = maps.Clone(v.blocks)
		c[id] = v
	}
	return c
}

// list is what is to be told of the volumes.
func (m model) list() []thin.Info {
	var list []thin.Info
	for _, id := range slices.Sorted(maps.Keys(m)) {
		v := m[id]
		list = append(list, thin.Info{Id: id, Size: v.size, Origin: v.origin, Mapped: len(v.blocks)})
	}
	return list
}

// at is what a block has.
func (v volume) at(block int) string {
	if data, has := v.blocks[block]; has {
		return data
	}
	return string(of(0))
}

// wrongPlace tells what is wrong with one volume more.
func (m model) wrongPlace(id int) error {
	switch _, has := m[id]; {
	case has:
		return api.ErrExists
	case len(m) == api.MaxVolumes:
		return api.ErrMany
	}
	return nil
}

// do lets the volumes be what they are behind a request, unless it is refused. One of devices changes no volume.
func (m model) do(r queue.Request) ([]byte, error) {
	v, has := m[r.Id]
	from, hasFrom := m[r.N]
	idIsRight, sizeIsRight := r.Id >= 1 && r.Id <= 1<<20, r.N >= 1 && r.N <= api.MaxBlocks
	switch {
	case r.Kind == create && !idIsRight, r.Kind == snapshot && !(idIsRight && hasFrom), r.Kind >= remove && r.Kind <= discard && !has:
		return nil, api.ErrVolume
	case (r.Kind == create || r.Kind == resize) && !sizeIsRight:
		return nil, api.ErrBlocks
	case r.Kind == create || r.Kind == snapshot:
		if err := m.wrongPlace(r.Id); err != nil {
			return nil, err
		}
		m[r.Id] = volume{size: r.N, blocks: map[int]string{}}
		if r.Kind == snapshot {
			m[r.Id] = volume{size: from.size, origin: r.N, blocks: maps.Clone(from.blocks)}
		}
	case r.Kind == remove:
		delete(m, r.Id)
	case r.Kind == resize:
		v.size = r.N
		maps.DeleteFunc(v.blocks, func(block int, _ string) bool { return block >= r.N })
		m[r.Id] = v
	case r.Kind >= read && r.Kind <= discard:
		return v.run(r)
	}
	return nil, nil
}

// run does a request that names some blocks.
func (v volume) run(r queue.Request) ([]byte, error) {
	count, most := r.N, 1<<20
	switch r.Kind {
	case read:
		most = api.MaxRun
	case write:
		count = len(r.Data) / api.Sector
		if len(r.Data)%api.Sector != 0 || count < 1 || count > api.MaxRun {
			return nil, api.ErrLength
		}
	}
	if count < 1 || count > most || r.Block < 0 || count > v.size || r.Block > v.size-count {
		return nil, api.ErrBlocks
	}
	var data []byte
	for i := range count {
		switch block := r.Block + i; r.Kind {
		case read:
			data = append(data, v.at(block)...)
		case write:
			v.blocks[block] = string(r.Data[i*api.Sector : (i+1)*api.Sector])
		case discard:
			delete(v.blocks, block)
		}
	}
	return data, nil
}

// place is a block of a volume.
type place struct{ id, block int }

// life is a pool, with what its volumes must be.
type life struct {
	*world
	now model
	// durable is what was committed last, as the generation gen, and since has what was written to each block from then on.
	durable model
	gen     int
	since   map[place][]string
	// isTight says that calls may be refused for want of room.
	isTight bool
}

// lives is a new pool.
func lives(t *testing.T, sizes ...int) *life {
	t.Helper()
	l := &life{world: made(t, sizes...), now: model{}}
	l.settle()
	return l
}

// settle keeps in mind what is durable: just then the audit tells what the pool tells.
func (l *life) settle() {
	l.Helper()
	l.durable, l.gen, l.since = l.now.clone(), l.p.Info().Gen, map[place][]string{}
	l.wantInfo()
}

// ask makes a call by way of a queue.
func (l *life) ask(r queue.Request) queue.Result {
	l.Helper()
	q := queue.New(l.p)
	_, err := q.Submit(r)
	must(l.T, "Submit", err)
	x, err := q.Step(0)
	must(l.T, "Step", err)
	return x
}

// run makes calls, which must be answered as layer 14's volumes answer them; a call of devices must be done.
func (l *life) run(list ...queue.Request) {
	l.Helper()
	for _, r := range list {
		next := l.now.clone()
		data, want := next.do(r)
		before, waits := l.p.Info(), l.b.Pending()
		x := l.ask(r)
		if l.isTight && want == nil && isRoom(x.Err) {
			l.wantLittle(r, before)
			continue
		}
		if !reflect.DeepEqual(x.Err, want) || !bytes.Equal(x.Data, data) {
			l.Fatalf("%v: %v, %x, not %v, %x", r, x.Err, x.Data, want, data)
		}
		if want != nil && (l.b.Pending() != waits || !reflect.DeepEqual(l.p.Info(), before)) {
			l.Fatalf("%v: %v, and something changed", r, want)
		}
		if want == nil {
			l.note(next)
		}
		l.wantKept()
	}
}

// isRoom tells whether a call was refused for want of room.
func isRoom(err error) bool { return errors.Is(err, api.ErrFull) || errors.Is(err, api.ErrSpace) }

// wantLittle demands that a call was refused where there was little room, and that nothing changed.
func (l *life) wantLittle(r queue.Request, before pool.Info) {
	l.Helper()
	if now := l.p.Info(); !reflect.DeepEqual(now, before) {
		l.Fatalf("%v was refused, and %+v is %+v", r, before, now)
	}
	little := 24
	switch r.Kind {
	case move:
		little = 2*before.Pages + api.Region
	case evacuate:
		// Nothing more is free on the device that is left.
		little += before.Roster.List[r.Id].Size
	}
	if before.Free >= little {
		l.Fatalf("%v was refused, with %+v", r, before)
	}
	l.wantKept()
}

// wantKept demands that what was committed is sound, whatever was done since.
func (l *life) wantKept() {
	l.Helper()
	r, err := audit.Audit(l.b)
	if err != nil || r.Gen != l.gen || r.Volumes != len(l.durable) {
		l.Fatalf("Audit: %+v, %v, and %d was the last generation, with %d volumes", r, err, l.gen, len(l.durable))
	}
}

// note goes over to what the volumes are behind a call.
func (l *life) note(next model) {
	l.Helper()
	for id, v := range next {
		for block, data := range v.blocks {
			if was, has := l.now[id].blocks[block]; !has || was != data {
				at := place{id, block}
				l.since[at] = append(l.since[at], data)
			}
		}
	}
	l.now = next
	if l.p.Info().Gen != l.gen {
		l.settle()
	}
}

// same demands that the volumes are what they must be, and that the room is what is said of it: what is in use are the distinct blocks, the pages, and the copies.
func (l *life) same() {
	l.Helper()
	i := l.p.Info()
	if want := l.now.list(); !slices.Equal(i.Volumes, want) {
		l.Fatalf("the volumes are %v, not %v", i.Volumes, want)
	}
	for id, v := range l.now {
		for at := 0; at < v.size; at += api.MaxRun {
			r := queue.Request{Kind: read, Id: id, Block: at, N: min(api.MaxRun, v.size-at)}
			want, _ := l.now.do(r)
			if x := l.ask(r); x.Err != nil || !bytes.Equal(x.Data, want) {
				l.Fatalf("%v: %v, or not the bytes that it must have", r, x.Err)
			}
		}
	}
	distinct, taken := map[int]bool{}, 0
	for id, v := range l.now {
		for block := range v.blocks {
			distinct[l.p.Manager().Map(id, block)] = true
		}
	}
	for device := range i.Roster.List {
		taken += len(l.p.Manager().Space().On(device))
	}
	if i.Data != len(distinct) || taken != i.Data+i.Pages+i.Copies || i.Room != i.Roster.Room() {
		l.Fatalf("%d distinct blocks, %d are taken, and %+v", len(distinct), taken, i)
	}
}

// change is a request of volumes that leaps about, some of which are refused.
func (l *life) change(next *numbers) queue.Request {
	id, from, at := 1+next.below(5), 1+next.below(5), next.below(42)-1
	switch kind := next.below(32); {
	case kind < 2:
		return queue.Request{Kind: create, Id: id, N: 1 + next.below(40)}
	case kind < 5:
		return queue.Request{Kind: snapshot, Id: id, N: from}
	case kind < 6:
		return queue.Request{Kind: remove, Id: id}
	case kind < 7:
		return queue.Request{Kind: resize, Id: id, N: 10 + next.below(40)}
	case kind < 11:
		return queue.Request{Kind: discard, Id: id, Block: at, N: 1 + next.below(9)}
	case kind < 13:
		return queue.Request{Kind: flush}
	case kind < 16:
		return queue.Request{Kind: read, Id: id, Block: at, N: next.below(10)}
	}
	return queue.Request{Kind: write, Id: id, Block: at, Data: of(span(1+next.below(60000), 1+next.below(4))...)}
}

// device is a request of devices that can be done, with what must happen to the bank ahead of it.
func (l *life) device(next *numbers) queue.Request {
	l.Helper()
	i := l.p.Info()
	actives := i.Roster.Actives()
	switch kind := next.below(14); {
	case i.Leaving >= 0 && kind == 0:
		return queue.Request{Kind: cancel}
	case i.Leaving >= 0 && kind < 12:
		return queue.Request{Kind: move}
	case kind == 12 && len(i.Roster.List) < api.MaxDevices:
		// The bank has one more already, if the power went when it was to be added.
		if len(l.b.Sizes()) == len(i.Roster.List) {
			_, err := l.b.Add(150 + next.below(50))
			must(l.T, "Add", err)
		}
		return queue.Request{Kind: add, Id: len(i.Roster.List)}
	case kind == 13:
		device := actives[next.below(len(actives))]
		must(l.T, "Grow", l.b.Grow(device, 1+next.below(9)))
		return queue.Request{Kind: grow, Id: device}
	case i.Leaving < 0 && kind < 4 && len(actives) > 2:
		return queue.Request{Kind: evacuate, Id: actives[next.below(len(actives))]}
	}
	return queue.Request{Kind: flush}
}

// lose has the devices that were left filled and detached: nothing of the pool is on them.
func (l *life) lose() int {
	l.Helper()
	lost := 0
	for device, e := range l.p.Info().Roster.List {
		if e.State == api.Removed && l.b.Sizes()[device] > 0 {
			must(l.T, "Fill", l.b.Fill(device, of(device+77)))
			l.wantKept()
			must(l.T, "Detach", l.b.Detach(device))
			l.wantKept()
			lost++
		}
	}
	return lost
}

// TestP22_3Long has volumes with snapshots that are changed while devices come, grow and are left. Behind each commit the report is what Info says, and between them it is what was committed.
func TestP22_3Long(t *testing.T) {
	lost, commits := 0, 0
	for seed := range 8 {
		l := lives(t, 200, 180, 190)
		next := numbers(seed)
		for turn := range 500 {
			l.run(l.change(&next))
			for range next.below(4) {
				l.run(l.device(&next))
			}
			if turn%10 == 0 {
				l.same()
				lost += l.lose()
			}
		}
		l.same()
		commits += l.gen
	}
	if lost < 8 || commits < 2000 {
		t.Fatalf("%d devices were left, %d commits", lost, commits)
	}
}

// TestP22_3Tight is the same on devices that are nearly full.
func TestP22_3Tight(t *testing.T) {
	for seed := range 20 {
		l := lives(t, 20+seed%30, 22+seed%17, 24+seed%13)
		l.isTight = true
		next := numbers(seed)
		for turn := range 250 {
			l.run(l.change(&next))
			if i := l.p.Info(); i.Leaving >= 0 && next.below(3) > 0 {
				l.run(queue.Request{Kind: move + next.below(8)/7*(cancel-move)})
			} else if actives := i.Roster.Actives(); i.Leaving < 0 && len(actives) > 1 && next.below(20) == 0 {
				l.run(queue.Request{Kind: evacuate, Id: actives[next.below(len(actives))]})
			}
			if turn%10 == 0 {
				l.same()
				l.lose()
			}
		}
		l.same()
	}
}
