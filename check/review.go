package check

import (
	"slices"

	"stillroom/api"
	"stillroom/schema"
)

// review: the first thing that is wrong with a query of the table.
func review(t api.Table, q api.Query) error {
	if err := items(t, q.Items); err != nil {
		return err
	}
	if err := where(t, q.Where); err != nil {
		return err
	}
	if err := group(t, q.Group); err != nil {
		return err
	}
	if err := items(t, ordered(q)); err != nil {
		return err
	}
	return grouping(q)
}

// items: what is wrong with the first of them that is.
func items(t api.Table, l []api.Item) error {
	for _, x := range l {
		if _, err := kindOf(t, x); err != nil {
			return fault{x.At, err}
		}
	}
	return nil
}

// where: likewise, of a predicate, with all that stand in it.
func where(t api.Table, whole api.Pred) error {
	for _, p := range preds(whole) {
		if err := alone(t, p); err != nil {
			return fault{p.At, err}
		}
	}
	return nil
}

// group: likewise, of the names of a GROUP BY.
func group(t api.Table, l []api.Item) error {
	for n, x := range l {
		if _, err := columnKind(t, x.Column); err != nil {
			return fault{x.At, err}
		}
		if among(l[:n], x.Column) {
			return fault{x.At, errTwice}
		}
	}
	return nil
}

// grouping: likewise, of the items and keys of a query that is grouped.
func grouping(q api.Query) error {
	if !Grouped(q) {
		return nil
	}
	if q.All {
		return fault{0, errGroup}
	}
	for _, x := range asked(q) {
		if !aggregate(x) && !among(q.Group, x.Column) {
			return fault{x.At, errGroup}
		}
	}
	return nil
}

// among: is the column one of the items'?
func among(l []api.Item, column string) bool {
	return slices.ContainsFunc(l, func(x api.Item) bool { return x.Column == column })
}

// alone: what is wrong with a predicate, but for its Kids.
func alone(t api.Table, p api.Pred) error {
	var kinds []api.Kind
	for _, name := range names(p) {
		k, err := columnKind(t, name)
		if err != nil {
			return err
		}
		kinds = append(kinds, k)
	}
	for _, v := range literals(p) {
		// Null is of every kind.
		if v.Kind != api.Null {
			kinds = append(kinds, v.Kind)
		}
	}
	if len(slices.Compact(kinds)) > 1 {
		return errType
	}
	return nil
}

// kindOf: an item's kind, and what is wrong with the item.
func kindOf(t api.Table, x api.Item) (api.Kind, error) {
	if x.Agg == api.Rows {
		return api.Int, nil
	}
	k, err := columnKind(t, x.Column)
	if err != nil {
		return api.Null, err
	}
	switch x.Agg {
	case api.Sum:
		if k != api.Int {
			err = errType
		}
		fallthrough
	case api.Count:
		k = api.Int
	}
	return k, err
}

// columnKind: of the column of a name.
func columnKind(t api.Table, name string) (api.Kind, error) {
	n, e := schema.Column(t, name)
	if e != api.OK {
		return api.Null, errColumn
	}
	return t.Columns[n].Kind, nil
}
