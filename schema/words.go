package schema

import "intaglio/api"

// A type's word has how many fields there are, then each field's kind and type, all of them of so many bits.
const (
	partBits  = 3
	partMask  = 1<<partBits - 1
	fieldBits = 2 * partBits
)

// fieldAt is the first bit of the i-th field.
func fieldAt(i int) int { return partBits + i*fieldBits }

// packed are a right type's fields in one word.
func packed(fields []api.Field) uint64 {
	w := uint64(len(fields))
	for i, f := range fields {
		w |= uint64(f.Kind) << fieldAt(i)
		w |= uint64(f.Type) << (fieldAt(i) + partBits)
	}
	return w
}

// unpacked are as many fields as w says that it has, right or not.
func unpacked(w uint64) []api.Field {
	fields := make([]api.Field, w&partMask)
	for i := range fields {
		fields[i].Kind = int(w >> fieldAt(i) & partMask)
		fields[i].Type = int(w >> (fieldAt(i) + partBits) & partMask)
	}
	return fields
}
