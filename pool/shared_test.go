package pool_test

import (
	"slices"
	"testing"

	"intaglio/api"
	"intaglio/arena"
	"intaglio/pool"
)

// P11.3: what follows.

// What a client does: it takes a block of a class, or gives back the block that it has had longest.
const (
	takeFirst = iota
	takeSecond
	give
)

// client does one thing after the other, a step at a time; it has the blocks that it took, till they are given back.
type client struct {
	todo []int
	run  run
	has  []int
}

// begin makes the run of what is to be done next, if there is none; a client that is to give back what it has not got leaves that out.
func (k *client) begin(c api.Config) {
	for k.run == nil && len(k.todo) > 0 {
		what := k.todo[0]
		k.todo = k.todo[1:]
		switch {
		case what != give:
			k.run = pool.NewTake(c, what)
		case len(k.has) > 0:
			k.run = pool.NewGive(c, k.has[0])
		}
	}
}

// step does the client's next step, and tells whether there was one.
func (k *client) step(c api.Config, a *arena.Arena) bool {
	k.begin(c)
	if k.run == nil {
		return false
	}
	if !k.run.Step(a) {
		return true
	}
	if take, is := k.run.(*pool.Take); !is {
		k.has = k.has[1:]
	} else if take.Block() > 0 {
		k.has = append(k.has, take.Block())
	}
	k.run = nil
	return true
}

// isWhole holds that each block is in its class's list, or with one client, and nowhere twice.
func isWhole(t *testing.T, c api.Config, a *arena.Arena, clients []*client) {
	t.Helper()
	s, all := spell(c), []int(nil)
	for class := range 2 {
		list, is := s.list(a.Words(), class)
		if !is {
			t.Fatalf("class %d has no list: %x", class, a.Words())
		}
		all = append(all, list...)
	}
	for _, k := range clients {
		all = append(all, k.has...)
	}
	slices.Sort(all)
	if want := slices.Sorted(slices.Values(slices.Concat(s.of(0), s.of(1)))); !slices.Equal(all, want) {
		t.Fatalf("the blocks in lists and with runs: %v, want %v", all, want)
	}
}

// start is clients that are to do this.
func start(todo [][]int) []*client {
	var all []*client
	for _, what := range todo {
		all = append(all, &client{todo: what})
	}
	return all
}

// schedules gives each row of so many numbers, below that one.
func schedules(length, below int, use func(row []int)) {
	row := make([]int, length)
	var fill func(i int)
	fill = func(i int) {
		if i == length {
			use(row)
			return
		}
		for row[i] = range below {
			fill(i + 1)
		}
	}
	fill(0)
}

// All interleavings of a few clients, behind each step.
func TestAllInterleavings(t *testing.T) {
	const x, y = takeFirst, takeSecond
	for _, v := range []struct {
		what   string
		c      api.Config
		length int
		todo   [][]int
	}{
		{"takes of two blocks", config(1, 1, 4, 2, 5, 1), 9, [][]int{{x}, {x}, {x}}},
		{"takes of one block", config(1, 1, 4, 1, 5, 1), 9, [][]int{{x}, {x}, {y}}},
		{"one is taken, and two are, and given back", config(1, 1, 4, 3, 5, 0), 14, [][]int{{x, x}, {x, x, give, x, give, give}}},
		{"taken, and given back", config(1, 1, 4, 2, 5, 1), 14, [][]int{{x, give, x, give}, {x, give, x, give}}},
		{"all are taken, and given back", config(1, 1, 4, 0, 5, 3), 14, [][]int{{y, y, give, give}, {y, y, give, give}}},
		{"three to and fro", config(1, 1, 4, 3, 5, 0), 9, [][]int{{x, give}, {x, give}, {x, give}}},
		{"both classes", config(1, 1, 4, 1, 5, 1), 14, [][]int{{x, y, give, give}, {y, x, give, give}}},
	} {
		t.Run(v.what, func(t *testing.T) {
			schedules(v.length, len(v.todo), func(row []int) {
				a, clients := made(t, v.c), start(v.todo)
				for _, who := range row {
					clients[who].step(v.c, a)
					isWhole(t, v.c, a, clients)
				}
				end(t, v.c, a, clients)
			})
		})
	}
}

// end lets the clients come to their ends, one after the other, and then give back all that they have: then all is free.
func end(t *testing.T, c api.Config, a *arena.Arena, clients []*client) {
	t.Helper()
	for _, k := range clients {
		for n := 0; k.run != nil || len(k.todo) > 0 || len(k.has) > 0; n++ {
			if k.run == nil && len(k.todo) == 0 {
				k.todo = []int{give}
			}
			k.step(c, a)
			if n > farthest {
				t.Fatalf("a client that goes on alone is not done behind %d steps", farthest)
			}
		}
	}
	isWhole(t, c, a, clients)
	for class := range 2 {
		if list, _ := spell(c).list(a.Words(), class); len(list) != c.Classes[class].Count {
			t.Fatalf("free are %v of class %d, at the end", list, class)
		}
	}
}

// Many clients, of any config, that go on as it is drawn: some are far behind the others.
func TestDrawnInterleavings(t *testing.T) {
	d := &drawer{seed: 2 << 40}
	overtaken := 0
	for range 400 {
		c := configs()[1+d.below(len(configs())-1)]
		a := made(t, c)
		todo := make([][]int, 2+d.below(8))
		for i := range todo {
			for range 12 {
				todo[i] = append(todo[i], []int{takeFirst, takeFirst, takeSecond, give, give}[d.below(5)])
			}
		}
		clients := start(todo)
		slow := d.below(len(clients))
		for range 300 {
			who := d.below(len(clients))
			if who == slow && d.below(6) > 0 {
				continue
			}
			if clients[who].step(c, a) && a.Last().Kind == api.Swap && !a.Last().Changed {
				overtaken++
			}
			isWhole(t, c, a, clients)
		}
		end(t, c, a, clients)
		if a.Err() != nil {
			t.Fatal(a.Err())
		}
	}
	if overtaken < 5000 {
		t.Errorf("runs were overtaken %d times: too few to tell", overtaken)
	}
}

// A run that goes on alone is done within six steps, whoever else stopped wherever; none needs more than five, as it is overtaken at one swap at most.
func TestAlone(t *testing.T) {
	c := config(1, 1, 4, 2, 5, 0)
	todo := [][]int{{takeFirst, give, takeFirst}, {takeFirst, give}, {takeFirst, takeFirst, give}}
	many := map[int]int{}
	for length := range 9 {
		schedules(length, len(todo), func(row []int) {
			for alone := range todo {
				a, clients := made(t, c), start(todo)
				for _, who := range row {
					clients[who].step(c, a)
				}
				clients[alone].begin(c)
				if r := clients[alone].run; r != nil {
					n := finish(t, a, r)
					many[n]++
					if n > 6 {
						t.Fatalf("%v, and %d alone: %d steps", row, alone, n)
					}
				}
			}
		})
	}
	for n := 1; n <= 5; n++ {
		if many[n] == 0 {
			t.Errorf("no run was done in %d steps: too few to tell", n)
		}
	}
	if many[6] > 0 {
		t.Error("a run was done in six steps, though none needs more than five")
	}
}

// The tag goes round from ffffffff to 0 while runs are on their way.
func TestTagsGoRound(t *testing.T) {
	c := config(1, 1, 4, 3, 5, 0)
	todo := [][]int{{takeFirst, takeFirst, give}, {takeFirst, give, takeFirst}}
	for tag := uint64(1<<32 - 6); tag < 1<<32; tag++ {
		schedules(12, len(todo), func(row []int) {
			a, clients := made(t, c), start(todo)
			a.Store(3, tag<<32+1)
			turns := uint64(0)
			for _, who := range row {
				if clients[who].step(c, a) && a.Last().Kind == api.Swap && a.Last().Changed {
					turns++
				}
				if got := a.Words()[3] >> 32; got != (tag+turns)%(1<<32) {
					t.Fatalf("the tag %x, behind %d turns of %x", got, turns, tag)
				}
			}
			isWhole(t, c, a, clients)
			end(t, c, a, clients)
		})
	}
}
