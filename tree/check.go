package tree

import (
	"intaglio/api"
	"intaglio/cause"
	"intaglio/schema"
)

// checker tells the first trouble of a struct of type t, of a right schema, that lies so deep. The depth is held against its limit ahead of all else: what lies deeper is never looked at, so that even a tree that has itself among its Kids is told.
func checker(s api.Schema) func(t int, v api.Tree, depth int) error {
	var check func(t int, v api.Tree, depth int) error
	check = func(t int, v api.Tree, depth int) error {
		if depth > api.MaxDepth {
			return cause.New(api.ErrOver)
		}
		if !isStruct(v, schema.Fields(s, t)) {
			return cause.New(api.ErrKind)
		}
		var err error
	fields:
		for i, field := range v.Kids {
			if !isOfKind(field, schema.Kind(s, t, i)) {
				err = cause.New(api.ErrKind)
				break fields
			}
			for _, inner := range field.Kids {
				if err = check(schema.Type(s, t, i), inner, depth+1); err != nil {
					break fields
				}
			}
		}
		return err
	}
	return check
}

// isStruct asks whether v itself, whatever its Kids are, is a struct of so many fields.
func isStruct(v api.Tree, fields int) bool {
	if len(v.Kids) != fields {
		return false
	}
	v.Kids = nil
	return isBlank(v)
}

// isOfKind asks whether v itself, whatever its Kids are, is a field of that kind. It takes away what the kind may have: nothing may be left.
func isOfKind(v api.Tree, kind int) bool {
	has, most := 0, api.MaxItems
	switch kind {
	case api.Num:
		v.Num = 0
	case api.Bytes:
		has, most = len(v.Bytes), api.MaxBytes
		v.Bytes = ""
	case api.Nums:
		has = len(v.Nums)
		v.Nums = nil
	case api.One:
		most = 1
		fallthrough
	case api.Many:
		has = len(v.Kids)
		v.Kids = nil
	}
	return has <= most && isBlank(v)
}

// isBlank asks whether v has nothing at all.
func isBlank(v api.Tree) bool {
	return v.Num == 0 && v.Bytes == "" && len(v.Nums) == 0 && len(v.Kids) == 0
}
