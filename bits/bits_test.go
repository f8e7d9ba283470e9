package bits_test

import (
	"math"
	"math/big"
	"testing"

	"intaglio/bits"
)

// samples are words of all sorts: none, all, single bits, and mixed ones.
func samples() []uint64 {
	words := []uint64{0, 1, 0xff, 0xabcd, 1 << 63, 1<<64 - 1, 0x5555555555555555, 0xaaaaaaaaaaaaaaaa, 0x0123456789abcdef}
	for x := uint64(3); len(words) < 16; x = x*6364136223846793005 + 1442695040888963407 {
		words = append(words, x)
	}
	return words
}

// edges are numbers about those at which parts begin to be, or cease to be, and those that go round.
func edges() []int {
	numbers := []int{math.MinInt, math.MinInt + 1, math.MinInt + 63, math.MinInt + 64, -1 << 32, -64, -63, 1 << 31, 1 << 32, math.MaxInt - 64, math.MaxInt - 63, math.MaxInt - 1, math.MaxInt}
	for i := -3; i <= 67; i++ {
		numbers = append(numbers, i)
	}
	return numbers
}

// may is P2.1's own words on at and n, in numbers that do not go round.
func may(at, n int) bool {
	if n < 1 || n > 64 {
		return false
	}
	behind := new(big.Int).Add(big.NewInt(int64(at)), big.NewInt(int64(n)))
	return at >= 0 && behind.Cmp(big.NewInt(64)) <= 0
}

// bit is the i-th bit of w.
func bit(w uint64, i int) uint64 {
	for range i {
		w /= 2
	}
	return w % 2
}

// P2.1: parts.

func TestGet(t *testing.T) {
	for _, c := range []struct {
		w     uint64
		at, n int
		want  uint64
	}{
		{0xabcd, 4, 8, 0xbc},
		{0xabcd, 0, 64, 0xabcd},
		{0xabcd, 0, 4, 0xd},
		{1 << 63, 63, 1, 1},
		{1<<64 - 1, 0, 64, 1<<64 - 1},
		{1<<64 - 1, 1, 63, 1<<63 - 1},
		{1<<64 - 1, 60, 4, 15},
		{1<<64 - 1, 60, 5, 0},
		{1<<64 - 1, 1, 64, 0},
		{1<<64 - 1, 64, 0, 0},
		{1<<64 - 1, 64, 1, 0},
		{1<<64 - 1, 0, 0, 0},
		{1<<64 - 1, 0, 65, 0},
		{1<<64 - 1, 0, -1, 0},
		{1<<64 - 1, -1, 1, 0},
		{1<<64 - 1, -1, 2, 0},
		{1<<64 - 1, math.MaxInt, 1, 0},
		{1<<64 - 1, math.MinInt, 64, 0},
		{1<<64 - 1, math.MinInt, math.MinInt, 0},
		{1<<64 - 1, math.MaxInt, math.MaxInt, 0},
	} {
		if got := bits.Get(c.w, c.at, c.n); got != c.want {
			t.Errorf("Get(%x, %d, %d): %x, want %x", c.w, c.at, c.n, got, c.want)
		}
	}
}

func TestGetBitByBit(t *testing.T) {
	for _, w := range samples() {
		for _, at := range edges() {
			for _, n := range edges() {
				want := uint64(0)
				if may(at, n) {
					for i := n - 1; i >= 0; i-- {
						want = want*2 + bit(w, at+i)
					}
				}
				if got := bits.Get(w, at, n); got != want {
					t.Fatalf("Get(%x, %d, %d): %x, want %x", w, at, n, got, want)
				}
			}
		}
	}
}

func TestSet(t *testing.T) {
	for _, c := range []struct {
		w     uint64
		at, n int
		v     uint64
		want  uint64
		ok    bool
	}{
		{0, 4, 8, 0xff, 0xff0, true},
		{0xffff, 4, 4, 0, 0xff0f, true},
		{0xffff, 4, 4, 5, 0xff5f, true},
		{5, 0, 64, 1<<64 - 1, 1<<64 - 1, true},
		{1<<64 - 1, 0, 64, 0, 0, true},
		{0, 63, 1, 1, 1 << 63, true},
		{0, 60, 4, 15, 15 << 60, true},
		{0, 0, 63, 1<<63 - 1, 1<<63 - 1, true},
		{1, 60, 4, 16, 1, false},
		{1, 0, 63, 1 << 63, 1, false},
		{1, 5, 1, 2, 1, false},
		{1, 5, 1, 1<<64 - 1, 1, false},
		{7, 60, 5, 1, 7, false},
		{7, 1, 64, 1, 7, false},
		{7, 64, 1, 0, 7, false},
		{7, 64, 0, 0, 7, false},
		{7, 0, 0, 0, 7, false},
		{7, 0, 65, 0, 7, false},
		{7, 0, -1, 0, 7, false},
		{7, -1, 1, 0, 7, false},
		{7, -1, 2, 0, 7, false},
		{7, math.MaxInt, 1, 0, 7, false},
		{7, math.MinInt, 64, 0, 7, false},
		{7, math.MinInt, math.MinInt, 0, 7, false},
		{7, math.MaxInt, math.MaxInt, 0, 7, false},
	} {
		if got, ok := bits.Set(c.w, c.at, c.n, c.v); got != c.want || ok != c.ok {
			t.Errorf("Set(%x, %d, %d, %x): %x, %v, want %x, %v", c.w, c.at, c.n, c.v, got, ok, c.want, c.ok)
		}
	}
}

// fits asks whether v is a number of n bits, by halving it n times.
func fits(v uint64, n int) bool {
	for range n {
		v /= 2
	}
	return v == 0
}

// values are numbers that fit into some numbers of bits, and into one less not.
func values() []uint64 {
	numbers := []uint64{0, 0x0123456789abcdef}
	for n := range 64 {
		numbers = append(numbers, 1<<n, 1<<n-1)
	}
	return append(numbers, 1<<64-1)
}

// P2.1, P2.4: what was set is there; all else stays.
func TestSetBitByBit(t *testing.T) {
	for _, w := range []uint64{0, 1<<64 - 1, 0xabcd, 0x0123456789abcdef} {
		for _, at := range edges() {
			for _, n := range edges() {
				for _, v := range values() {
					checkSet(t, w, at, n, v)
				}
			}
			if t.Failed() {
				return
			}
		}
	}
}

func checkSet(t *testing.T, w uint64, at, n int, v uint64) {
	t.Helper()
	got, ok := bits.Set(w, at, n, v)
	if want := may(at, n) && fits(v, n); ok != want {
		t.Errorf("Set(%x, %d, %d, %x): told %v, want %v", w, at, n, v, ok, want)
		return
	}
	if !ok {
		if got != w {
			t.Errorf("Set(%x, %d, %d, %x): %x and false, want the word as it is", w, at, n, v, got)
		}
		return
	}
	if back := bits.Get(got, at, n); back != v {
		t.Errorf("Get of Set(%x, %d, %d, %x): %x", w, at, n, v, back)
	}
	part := (uint64(1)<<n - 1) << at
	if got&^part != w&^part || got&part != v<<at {
		t.Errorf("Set(%x, %d, %d, %x): %x", w, at, n, v, got)
	}
}

// P2.4: parts that are set one beside the other are all there.
func TestSetBeside(t *testing.T) {
	sizes := []int{16, 31, 1, 1, 15}
	numbers := []uint64{0xffff, 0x2aaaaaaa, 1, 0, 0x7abc}
	for _, w := range samples() {
		at := 0
		for i, n := range sizes {
			w, _ = bits.Set(w, at, n, numbers[i])
			at += n
		}
		at = 0
		for i, n := range sizes {
			if got := bits.Get(w, at, n); got != numbers[i] {
				t.Errorf("part %d of %x: %x, want %x", i, w, got, numbers[i])
			}
			at += n
		}
	}
}

// P2.2: mixed.

// mixed is P2.2's own words, in numbers that have no end, cut at 64 bits.
func mixed(x uint64) uint64 {
	round := new(big.Int).Lsh(big.NewInt(1), 64)
	n := new(big.Int).SetUint64(x)
	turn := func(by uint) { n.Xor(n, new(big.Int).Rsh(n, by)) }
	times := func(factor string) {
		f, _ := new(big.Int).SetString(factor, 16)
		n.Mod(n.Mul(n, f), round)
	}
	turn(30)
	times("bf58476d1ce4e5b9")
	turn(27)
	times("94d049bb133111eb")
	turn(31)
	return n.Uint64()
}

func TestMix(t *testing.T) {
	for _, c := range []struct{ x, want uint64 }{
		{0, 0},
		{0x9e3779b97f4a7c15, 0xe220a8397b1dcdaf},
		{1234567 + 0x9e3779b97f4a7c15, 6457827717110365317},
	} {
		if got := bits.Mix(c.x); got != c.want {
			t.Errorf("Mix(%x): %x, want %x", c.x, got, c.want)
		}
	}
	for _, x := range append(samples(), values()...) {
		if got, want := bits.Mix(x), mixed(x); got != want {
			t.Errorf("Mix(%x): %x, want %x", x, got, want)
		}
	}
}
