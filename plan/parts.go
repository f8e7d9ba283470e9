package plan

import "intaglio/api"

// How many parts a packed config has, and how many bits each of them.
const (
	partCount = 9
	partBits  = 7
)

// parts are the numbers of a config, in the order in which they are packed.
type parts [partCount]int

type limit struct{ least, most int }

// limits are what each part may be.
var limits = [partCount]limit{{1, 8}, {4, 32}, {1, 8}, {1, 8}, {1, 8}, {4, 96}, {0, 12}, {4, 96}, {0, 12}}

func partsOf(c api.Config) parts {
	first, second := c.Classes[0], c.Classes[1]
	return parts{c.Topics, c.Small, c.Slots, c.Clients, c.Retry, first.Size, first.Count, second.Size, second.Count}
}

func (p parts) config() api.Config {
	return api.Config{
		Topics: p[0], Small: p[1], Slots: p[2], Clients: p[3], Retry: p[4],
		Classes: [classes]api.Class{{Size: p[5], Count: p[6]}, {Size: p[7], Count: p[8]}},
	}
}

// isRight asks whether each part is within its limits, and the second class's blocks are the greater ones.
func isRight(c api.Config) bool {
	for i, part := range partsOf(c) {
		if part < limits[i].least || part > limits[i].most {
			return false
		}
	}
	return c.Classes[0].Size < c.Classes[1].Size
}
