package store

import (
	"slices"

	"stillroom/api"
	"stillroom/tree"
)

// Snapshot: the tables at a version.
type Snapshot struct {
	// All snapshots of a store share it, so it is never handed out.
	catalog []api.Table
	version int
	// By the tables' numbers. An array, so that what is done to a copy of the snapshot leaves this one as it is.
	trees [api.MaxTables]*tree.Tree
}

// Version: the snapshot's.
func (p *Snapshot) Version() int { return p.version }

// Catalog: its tables.
func (p *Snapshot) Catalog() []api.Table { return copied(p.catalog) }

// Rows: a table's.
func (p *Snapshot) Rows(table string) ([]api.Row, api.Errno) {
	n := p.number(table)
	if n < 0 {
		return nil, api.ErrTable
	}
	return tree.Rows(p.trees[n]), api.OK
}

// Get: the row of a key.
func (p *Snapshot) Get(table string, key api.Row) (api.Row, bool) {
	n := p.number(table)
	if n < 0 {
		return nil, false
	}
	return tree.Get(p.trees[n], key)
}

// Len: how many rows.
func (p *Snapshot) Len(table string) int {
	n := p.number(table)
	if n < 0 {
		return 0
	}
	return tree.Len(p.trees[n])
}

// number: of the table of a name; below 0: none.
func (p *Snapshot) number(name string) int {
	return slices.IndexFunc(p.catalog, func(t api.Table) bool { return t.Name == name })
}

// copied: a catalog in new memory.
func copied(l []api.Table) []api.Table {
	l = slices.Clone(l)
	for n := range l {
		l[n].Columns = slices.Clone(l[n].Columns)
	}
	return l
}
