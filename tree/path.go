package tree

import (
	"intaglio/api"
	"intaglio/cause"
	"intaglio/schema"
)

// getter tells to what a path leads, one that is not empty, in a right struct of type t.
func getter(s api.Schema) func(t int, v api.Tree, path []int) (uint64, error) {
	var get func(t int, v api.Tree, path []int) (uint64, error)
	get = func(t int, v api.Tree, path []int) (uint64, error) {
		i, rest := path[0], path[1:]
		if !isAmong(i, len(v.Kids)) {
			return 0, cause.New(api.ErrArg)
		}
		field, kind := v.Kids[i], schema.Kind(s, t, i)
		if len(rest) == 0 {
			return itself(field, kind), nil
		}
		items, which := field.Nums, 0
		switch kind {
		case api.Bytes:
			items = numbers(field.Bytes)
			fallthrough
		case api.Nums:
			return item(items, rest)
		case api.Many:
			which, rest = rest[0], rest[1:]
			fallthrough
		case api.One:
			if !isAmong(which, len(field.Kids)) {
				return 0, cause.New(api.ErrNone)
			}
			inner := field.Kids[which]
			if len(rest) == 0 {
				return uint64(len(inner.Kids)), nil
			}
			return get(schema.Type(s, t, i), inner, rest)
		}
		return 0, cause.New(api.ErrKind)
	}
	return get
}

// itself is what a path is told that ends at a field: the number, or how many there are.
func itself(field api.Tree, kind int) uint64 {
	switch kind {
	case api.Num:
		return field.Num
	case api.Bytes:
		return uint64(len(field.Bytes))
	case api.Nums:
		return uint64(len(field.Nums))
	}
	return uint64(len(field.Kids))
}

// item is the one of the items that the path's first number tells, if the path ends there.
func item(items []uint64, path []int) (uint64, error) {
	if !isAmong(path[0], len(items)) {
		return 0, cause.New(api.ErrNone)
	}
	if len(path) > 1 {
		return 0, cause.New(api.ErrKind)
	}
	return items[path[0]], nil
}

// numbers are a text's bytes, so that they are told as Nums are.
func numbers(text string) []uint64 {
	all := make([]uint64, len(text))
	for i := range all {
		all[i] = uint64(text[i])
	}
	return all
}

// isAmong asks whether i is one of so many, numbered from 0.
func isAmong(i, n int) bool { return i >= 0 && i < n }
