package store

import (
	"culvert/api"
	"culvert/table"
	"culvert/wal"
)

// plan is what a commit does, if nothing is refused.
type plan struct {
	tx         []byte // the transaction of the change; none, if there is nothing to do
	ahead      []byte // the state as it is, as bytes
	behind     *table.Table
	checkpoint bool // the region has no room for the transaction
}

func (p plan) nothing() bool { return len(p.tx) == 0 }

// judge is what a commit of the sets does, or the error with which it is refused ahead of all operations.
func (s *Store) judge(l []api.Set) (plan, api.Errno) {
	if s.Ended() {
		return plan{}, api.ErrEnded
	}
	p, e := s.plan(l)
	if e != api.OK || p.nothing() {
		return plan{}, e
	}
	epoch, seq, _ := s.log.State()
	switch {
	case len(p.tx) > api.MaxTx:
		return plan{}, api.ErrTxBig
	case seq > api.MaxSeq || p.checkpoint && epoch == api.MaxSeq:
		return plan{}, api.ErrSeqs
	case !s.hasRoom(p.behind.Bytes()) || p.checkpoint && !s.hasRoom(p.ahead):
		return plan{}, api.ErrFull
	}
	return p, api.OK
}

// plan is what a commit of the sets would do, whether that is refused or not; ErrRow, if one of them may not be.
func (s *Store) plan(l []api.Set) (plan, api.Errno) {
	p := plan{ahead: s.state.Bytes()}
	p.behind, _ = table.FromBytes(p.ahead) // no error: they are a table's
	if e := p.behind.Apply(l); e != api.OK {
		return plan{}, e
	}
	p.tx, _ = table.PutSets(change(s.state, l)) // no error: a change's keys rise
	p.checkpoint = wal.Need(len(p.tx)) > s.log.Left()
	return p, api.OK
}

// change is what must be done to a table to come to what all the sets make of it.
func change(t *table.Table, l []api.Set) []api.Set {
	o := t.Over()
	for _, set := range l {
		if set.Gone {
			o.Delete(set.Key)
		} else {
			o.Set(set.Key, set.Value)
		}
	}
	return o.Sets()
}

// hasRoom tells whether a region has room for a state and the longest transaction behind it.
func (s *Store) hasRoom(state []byte) bool {
	return wal.Pieces(len(state))+wal.Need(api.MaxTx) <= s.log.Room()
}
