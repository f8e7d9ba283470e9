package slots_test

import (
	"slices"
	"testing"

	"intaglio/api"
	"intaglio/arena"
	"intaglio/slots"
)

// P12.4: what follows.

// What a client does: it claims a slot, names a block in the slot that it has had longest, or releases that.
const (
	claim = iota
	name
	release
)

// client does one thing after the other, a step at a time; it has the slots that it claimed, till they are released, and knows the word of each.
type client struct {
	number int
	todo   []int
	run    run
	has    []int
	word   map[int]uint64
}

// start is clients, from number 0 on, that are to do this.
func start(todo [][]int) []*client {
	var all []*client
	for i, what := range todo {
		all = append(all, &client{number: i, todo: what, word: map[int]uint64{}})
	}
	return all
}

// step does the client's next step, and tells whether there was one; a client that has no slot leaves out what it would do with that.
func (k *client) step(c api.Config, a *arena.Arena) bool {
	for k.run == nil {
		if len(k.todo) == 0 {
			return false
		}
		what := k.todo[0]
		k.todo = k.todo[1:]
		switch {
		case what == claim:
			k.run = slots.NewClaim(c, k.number)
		case len(k.has) == 0:
		case what == release:
			k.run = slots.NewRelease(c, k.has[0])
		default:
			k.word[k.has[0]] = slots.Mark(k.number, 1+len(k.todo))
			a.Store(slotWord(k.has[0]), k.word[k.has[0]])
			return true
		}
	}
	if k.run.Step(a) {
		k.ended()
	}
	return true
}

// ended tells the client what came of its run.
func (k *client) ended() {
	if _, is := k.run.(*slots.Release); is {
		k.has = k.has[1:]
	} else if slot := slotOf(k.run); slot >= 0 {
		k.has = append(k.has, slot)
		k.word[slot] = slots.Mark(k.number, 0)
	}
	k.run = nil
}

// isApart holds that each slot is one client's, whose word is in it, or nobody's, and free; and that what is named is just what clients named.
func isApart(t *testing.T, c api.Config, a *arena.Arena, clients []*client) {
	t.Helper()
	want := make([]uint64, c.Slots)
	var named []int
	for _, k := range clients {
		for _, slot := range k.has {
			if slot >= c.Slots || want[slot] != 0 {
				t.Fatalf("client %d has slot %d, which there is not, or another one has", k.number, slot)
			}
			want[slot] = k.word[slot]
			if block := slots.Block(k.word[slot]); block != 0 {
				named = append(named, block)
			}
		}
	}
	words := a.Words()
	if got := words[slotWord(0):slotWord(c.Slots)]; !slices.Equal(got, want) {
		t.Fatalf("the slots' words %x, want %x", got, want)
	}
	slices.Sort(named)
	if got := slots.Named(c, words); !slices.Equal(got, slices.Compact(named)) {
		t.Fatalf("%v are named, want %v", got, slices.Compact(named))
	}
}

// end lets the clients come to their ends, one after the other, and then release all that they have: then all slots are free.
func end(t *testing.T, c api.Config, a *arena.Arena, clients []*client) {
	t.Helper()
	for _, k := range clients {
		for n := 0; k.run != nil || len(k.todo) > 0 || len(k.has) > 0; n++ {
			if k.run == nil && len(k.todo) == 0 {
				k.todo = []int{release}
			}
			k.step(c, a)
			if n > farthest {
				t.Fatalf("a client that goes on alone is not done behind %d steps", farthest)
			}
		}
	}
	if !slices.Equal(a.Words(), made(t, c).Words()) || a.Err() != nil {
		t.Fatalf("at the end: %x, %v", a.Words(), a.Err())
	}
}

// schedules gives each row of so many numbers, below that one.
func schedules(length, below int, use func(row []int)) {
	row := make([]int, length)
	var fill func(i int)
	fill = func(i int) {
		if i == length {
			use(row)
			return
		}
		for row[i] = range below {
			fill(i + 1)
		}
	}
	fill(0)
}

// All interleavings of a few clients, behind each step.
func TestAllInterleavings(t *testing.T) {
	for _, v := range []struct {
		what          string
		slots, length int
		todo          [][]int
	}{
		{"two claim one slot", 1, 6, [][]int{{claim, release, claim}, {claim, release, claim}}},
		{"three claim one slot", 1, 8, [][]int{{claim, release, claim, release}, {claim, claim, release}, {claim, release, claim}}},
		{"two claim two slots", 2, 10, [][]int{{claim, claim, release, release}, {claim, claim, release, release}}},
		{"three claim two slots", 2, 9, [][]int{{claim, release, claim}, {claim, release, claim}, {claim, claim, release}}},
		{"three claim three slots", 3, 9, [][]int{{claim, release}, {claim, claim, release}, {claim, release, claim}}},
		{"slots that name blocks", 2, 13, [][]int{{claim, name, release, claim, name}, {claim, name, claim, release, name}}},
		{"one that tries for ever", 1, 12, [][]int{{claim, claim, claim, claim, release}, {claim, name, release, claim, name, release}}},
		{"four clients", 2, 7, [][]int{{claim, release}, {claim, release}, {claim, release}, {claim, release}}},
	} {
		t.Run(v.what, func(t *testing.T) {
			c := config(v.slots, len(v.todo), 1)
			schedules(v.length, len(v.todo), func(row []int) {
				a, clients := made(t, c), start(v.todo)
				for _, who := range row {
					clients[who].step(c, a)
					isApart(t, c, a, clients)
				}
				end(t, c, a, clients)
			})
		})
	}
}

// As long as nothing is released, and there are no more claims than slots, each claim has one, however they are interleaved; of more claims, as many as there are slots.
func TestClaimsAlone(t *testing.T) {
	for many := 1; many <= 3; many++ {
		for claims := 1; claims <= 4; claims++ {
			c := config(many, claims, 1)
			todo := slices.Repeat([][]int{{claim}}, claims)
			schedules(8, claims, func(row []int) {
				a, clients := made(t, c), start(todo)
				for _, who := range row {
					clients[who].step(c, a)
				}
				have := 0
				for _, k := range clients {
					for range many {
						k.step(c, a)
					}
					if k.run != nil {
						t.Fatalf("%v: a claim is not done behind %d steps", row, many)
					}
					have += len(k.has)
				}
				if have != min(many, claims) {
					t.Fatalf("%v: %d claims have slots, of %d, where there are %d slots", row, have, claims, many)
				}
			})
		}
	}
}

// Many clients, of any config, that go on as it is drawn: some are far behind the others.
func TestDrawnInterleavings(t *testing.T) {
	d := &drawer{seed: 1 << 40}
	missed, without := 0, 0
	for range 600 {
		c := configs()[d.below(len(configs()))]
		a := made(t, c)
		todo := make([][]int, c.Clients)
		for i := range todo {
			for range 10 {
				todo[i] = append(todo[i], []int{claim, claim, name, release}[d.below(4)])
			}
		}
		clients := start(todo)
		slow := d.below(len(clients))
		for range 200 {
			who := d.below(len(clients))
			if who == slow && d.below(6) > 0 {
				continue
			}
			was := clients[who].run
			if !clients[who].step(c, a) {
				continue
			}
			if last := a.Last(); last.Kind == api.Swap && !last.Changed {
				missed++
			}
			if was != nil && was.Done() && a.Last().Kind == api.Swap && slotOf(was) < 0 {
				without++
			}
			isApart(t, c, a, clients)
		}
		end(t, c, a, clients)
	}
	if missed < 5000 || without < 300 {
		t.Errorf("%d swaps were told false, %d claims had no slot: too few to tell", missed, without)
	}
}
