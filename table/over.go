package table

import (
	"bytes"
	"slices"

	"culvert/api"
)

// Over is changes laid over a table: the rows as the changes have made them, and as they were before.
type Over struct {
	rows
	before rows
}

// Set sets a value.
func (o *Over) Set(key, value []byte) api.Errno {
	if !mayBe(api.Set{Key: key, Value: value}) {
		return api.ErrRow
	}
	o.put(key, value)
	return api.OK
}

// Delete deletes a row.
func (o *Over) Delete(key []byte) bool { return o.drop(key) }

// Sets tells what is unlike the table, in the order of the keys.
func (o *Over) Sets() []api.Set {
	var l []api.Set
	for key, value := range o.rows {
		if !o.before.has(key, value) {
			l = append(l, api.Set{Key: []byte(key), Value: bytes.Clone(value)})
		}
	}
	for key := range o.before {
		if _, there := o.rows[key]; !there {
			l = append(l, api.Set{Key: []byte(key), Gone: true})
		}
	}
	slices.SortFunc(l, func(a, b api.Set) int { return bytes.Compare(a.Key, b.Key) })
	return l
}
