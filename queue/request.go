package queue

import (
	"slices"

	"portage/api"
	"portage/locks"
	"portage/pool"
)

// The kinds of requests: the calls of the pool.
const (
	kindCreate = iota + 1
	kindSnapshot
	kindDelete
	kindResize
	kindRead
	kindWrite
	kindDiscard
	kindFlush
	kindAdd
	kindGrow
	kindEvacuate
	kindCancel
	kindMove
)

// devices is the volume that the spans of all requests of devices write. No volume has this number, so that they go one behind the other, and beside those that read and write volumes.
const devices = 1 << 21

// isKnown tells whether a request's kind is one of the kinds.
func (r Request) isKnown() bool { return r.Kind >= kindCreate && r.Kind <= kindMove }

// keep tells what of a request is needed later, in memory of its own: just a Write has Data.
func (r Request) keep() Request {
	if r.Kind == kindWrite {
		r.Data = slices.Clone(r.Data)
	} else {
		r.Data = nil
	}
	return r
}

// span tells what a request touches.
func (r Request) span() locks.Span {
	s := locks.Span{Vol: r.Id, From: r.Block, Len: r.N}
	switch r.Kind {
	case kindWrite:
		s.Len = len(r.Data) / api.Sector
		fallthrough
	case kindDiscard:
		s.Write = true
		fallthrough
	case kindRead:
		return named(s)
	case kindResize:
		return ofVolume(r.Id)
	case kindCreate, kindSnapshot, kindDelete:
		return locks.Span{Write: true}
	case kindFlush:
		return locks.Span{}
	default:
		return ofVolume(devices)
	}
}

// named tells the span of the blocks that a request names. Where it names none that may be, the pool refuses it whatever blocks have, by which volumes there are: it waits for those that change that, and changes nothing.
func named(s locks.Span) locks.Span {
	// To layer 15 the volume 0 is all volumes, and no blocks are all blocks. A span that is right clashes with a write of everything.
	if s.Vol < 1 || s.Len == 0 || !s.Clash(locks.Span{Write: true}) {
		return locks.Span{}
	}
	return s
}

// ofVolume tells the span of all blocks of a volume, if it may be one.
func ofVolume(id int) locks.Span {
	if id < 1 {
		return locks.Span{}
	}
	return locks.Span{Vol: id, Write: true}
}

// call makes the call of the pool that a request is, and tells what that told.
func (r Request) call(p *pool.Pool) Result {
	var x Result
	switch r.Kind {
	case kindCreate:
		x.Err = p.Create(r.Id, r.N)
	case kindSnapshot:
		x.Err = p.Snapshot(r.Id, r.N)
	case kindDelete:
		x.Err = p.Delete(r.Id)
	case kindResize:
		x.Err = p.Resize(r.Id, r.N)
	case kindRead:
		x.Data, x.Err = p.Read(r.Id, r.Block, r.N)
	case kindWrite:
		x.Err = p.Write(r.Id, r.Block, r.Data)
	case kindDiscard:
		x.Err = p.Discard(r.Id, r.Block, r.N)
	case kindFlush:
		x.Err = p.Flush()
	case kindAdd:
		x.Err = p.Add(r.Id)
	case kindGrow:
		x.Err = p.Grow(r.Id)
	case kindEvacuate:
		x.Err = p.Evacuate(r.Id)
	case kindCancel:
		x.Err = p.Cancel()
	case kindMove:
		x.N, x.Err = p.Move()
	}
	return x
}
