package look

import (
	"intaglio/api"
	"intaglio/bits"
	"intaglio/build"
	"intaglio/schema"
)

// decoder tells the struct of type t whose words, of a right message, begin at the word at: no reference leads out of these, and none back. A word that refers to nothing is like a reference to none.
func decoder(s api.Schema, words []uint64) func(t, at int) api.Tree {
	var decode func(t, at int) api.Tree
	decode = func(t, at int) api.Tree {
		fields := make([]api.Tree, schema.Fields(s, t))
		for i := range fields {
			offset, n := build.Part(words[at+i])
			to := at + i + offset
			switch schema.Kind(s, t, i) {
			case api.Num:
				fields[i].Num = words[at+i]
			case api.Bytes:
				fields[i].Bytes, _ = bits.Text(words[to:to+bits.Count(n)], n)
			case api.Nums:
				fields[i].Nums = append(fields[i].Nums, words[to:to+n]...)
			case api.One, api.Many:
				inner := schema.Type(s, t, i)
				for k := range n {
					fields[i].Kids = append(fields[i].Kids, decode(inner, to+k*schema.Fields(s, inner)))
				}
			}
		}
		return api.Tree{Kids: fields}
	}
	return decode
}
