package schema

import "intaglio/api"

// tooDeep is how deep a type is said to be that is deeper than MaxDepth, or that has structs of itself.
const tooDeep = api.MaxDepth + 1

// hasType asks whether the schema, right or not, has a type t.
func hasType(s api.Schema, t int) bool { return t >= 0 && t < len(s) }

// field is type t's field i, of any schema; the zero one, if there is none.
func field(s api.Schema, t, i int) api.Field {
	if i < 0 || i >= Fields(s, t) {
		return api.Field{}
	}
	return s[t][i]
}

// isRight asks whether the schema is right.
func isRight(s api.Schema) bool {
	if len(s) < 1 || len(s) > api.MaxTypes {
		return false
	}
	for _, fields := range s {
		if !areRight(fields, len(s)) {
			return false
		}
	}
	return true
}

// areRight asks whether these are the fields of a type, in a schema of so many types.
func areRight(fields []api.Field, types int) bool {
	if len(fields) < 1 || len(fields) > api.MaxFields {
		return false
	}
	for _, f := range fields {
		if !isRightField(f, types) {
			return false
		}
	}
	return true
}

// isRightField asks whether f is a field, in a schema of so many types.
func isRightField(f api.Field, types int) bool {
	switch f.Kind {
	case api.Num, api.Bytes, api.Nums:
		// These have no type: the one number that they may name is 0.
		types = 1
		fallthrough
	case api.One, api.Many:
		return f.Type >= 0 && f.Type < types
	}
	return false
}

// hasStructs asks whether a field of this kind has structs of a type.
func hasStructs(kind int) bool { return kind == api.One || kind == api.Many }

// depths tells how deep each type of a right schema is. The flattest types are found first: a type is d deep, if all that its fields have structs of was found to be less; so those that lead back to themselves are never found, and nothing has to be followed round and round.
func depths(s api.Schema) func(t int) int {
	var deep [api.MaxTypes]int
	for t := range deep {
		deep[t] = tooDeep
	}
	lessThan := func(d int, f api.Field) bool { return !hasStructs(f.Kind) || deep[f.Type] < d }
	for d := 1; d <= api.MaxDepth; d++ {
	types:
		for t, fields := range s {
			for _, f := range fields {
				if !lessThan(d, f) {
					continue types
				}
			}
			deep[t] = min(deep[t], d)
		}
	}
	return func(t int) int { return deep[t] }
}
