package store

import (
	"culvert/api"
	"culvert/disk"
	"culvert/table"
	"culvert/wal"
)

// givenUp is what the functions that take over a log panic with, and nothing else does.
type givenUp struct{ why api.Errno }

// Open opens the store of a device.
func Open(d *disk.Disk) (opened *Store, e api.Errno) {
	defer func() {
		if p := recover(); p != nil {
			up, own := p.(givenUp)
			if !own {
				panic(p)
			}
			opened, e = nil, up.why
		}
	}()
	log, state, txs, e := wal.Open(d)
	if e != api.OK {
		return nil, e
	}
	s := &Store{log: log, state: takeOver(state, txs)}
	if _, seq, _ := log.State(); seq > api.MaxSeq {
		return nil, api.ErrSeqs
	}
	if e := log.Safe(); e != api.OK {
		return nil, e
	}
	return s, api.OK
}

// takeOver is the table that a checkpoint's string and the transactions behind it tell.
func takeOver(state []byte, txs [][]byte) *table.Table {
	t := takeState(state)
	for _, tx := range txs {
		takeTransaction(t, tx)
	}
	return t
}

// takeState is the table of a checkpoint's string.
func takeState(state []byte) *table.Table {
	t, e := table.FromBytes(state)
	mustBe(e)
	return t
}

// takeTransaction does to a table what a transaction says.
func takeTransaction(t *table.Table, tx []byte) {
	l, e := table.GetSets(tx)
	mustBe(e)
	t.Apply(l) // no error: what GetSets tells may be
}

// mustBe gives up Open where what stands in the log is none.
func mustBe(e api.Errno) {
	if e != api.OK {
		panic(givenUp{e})
	}
}
