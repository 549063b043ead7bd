package store

import (
	"slices"

	"stillroom/api"
	"stillroom/schema"
	"stillroom/tree"
	"stillroom/value"
)

// draft: a commit on the way: the snapshot that it makes, as far as its operations are done.
type draft struct {
	Snapshot
	changes []api.Change
	spots   []spot
}

// spot: what an operation is done at: a key in the table of this number.
type spot struct {
	table int
	key   api.Row
}

// all does all operations, up to the first that can't be done.
func (d *draft) all(ops []api.Op) error {
	switch {
	case len(ops) == 0:
		return refusal(api.ErrRange)
	case len(ops) > api.MaxBatch:
		return refusal(api.ErrFull)
	}
	for n, op := range ops {
		if err := d.do(op); err != nil {
			return fault{op.Table, n, err}
		}
	}
	// Not until the last is done, as a Delete makes room for a Put ahead of it, too.
	for _, t := range d.trees {
		if tree.Len(t) > api.MaxRows {
			return refusal(api.ErrFull)
		}
	}
	return nil
}

// do does one operation.
func (d *draft) do(op api.Op) error {
	at, err := d.claim(op)
	if err != nil {
		return err
	}
	was, there := tree.Get(d.trees[at.table], at.key)
	switch {
	case op.Kind == api.Delete && !there:
		return refusal(api.ErrNone)
	case op.Kind == api.Delete:
		d.trees[at.table] = tree.Delete(d.trees[at.table], at.key)
		d.change(at, was, nil)
	case !value.Same(was, op.Row):
		d.trees[at.table] = tree.Put(d.trees[at.table], at.key, op.Row)
		d.change(at, was, slices.Clone(op.Row))
	}
	return nil
}

// claim: the spot of an operation, if it is one, and none ahead is done there.
func (d *draft) claim(op api.Op) (spot, error) {
	if op.Kind != api.Put && op.Kind != api.Delete {
		return spot{}, refusal(api.ErrRange)
	}
	n := d.number(op.Table)
	if n < 0 {
		return spot{}, refusal(api.ErrTable)
	}
	key, e := keyOf(d.catalog[n], op)
	if e != api.OK {
		return spot{}, refusal(e)
	}
	at := spot{n, key}
	if slices.ContainsFunc(d.spots, at.same) {
		return spot{}, refusal(api.ErrKey)
	}
	d.spots = append(d.spots, at)
	return at, nil
}

// same: are they one?
func (s spot) same(other spot) bool {
	return s.table == other.table && value.Same(s.key, other.key)
}

// change tells what an operation changed.
func (d *draft) change(at spot, was, is api.Row) {
	d.changes = append(d.changes, api.Change{Table: d.catalog[at.table].Name, Old: was, New: is})
}

// keyOf: the key that an operation is done at: its row's, or the one that it has in a row's place.
func keyOf(t api.Table, op api.Op) (api.Row, api.Errno) {
	if op.Kind == api.Delete {
		return op.Row, schema.Key(t, op.Row)
	}
	if e := schema.Row(t, op.Row); e != api.OK {
		return nil, e
	}
	return schema.Of(t, op.Row), api.OK
}
