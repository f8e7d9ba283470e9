package bits_test

import (
	"math"
	"slices"
	"strings"
	"testing"

	"intaglio/bits"
)

// texts are of all lengths to past three words; with zeros, high bytes, and what is no UTF-8.
func texts() []string {
	long := "abcdefghijklmnopqrstuvwxyz0123456789"
	var all []string
	for n := range 27 {
		all = append(all, long[:n], strings.Repeat("\x00", n), strings.Repeat("\xff", n), strings.Repeat("\x00\x80\xff\x01", n)[:n])
	}
	return append(all, "hello, you", "äöü€𝄞", "\x00a", "a\x00", "\xc3\x28\xed\xa0\x80", strings.Repeat(long, 300))
}

// P2.3: texts.

func TestCount(t *testing.T) {
	for _, c := range []struct{ bytes, want int }{
		{math.MinInt, 0}, {-9, 0}, {-8, 0}, {-1, 0}, {0, 0}, {1, 1}, {7, 1}, {8, 1}, {9, 2}, {16, 2}, {17, 3}, {40, 5}, {41, 6},
		{math.MaxInt - 8, 1<<60 - 1}, {math.MaxInt - 7, 1<<60 - 1}, {math.MaxInt - 6, 1 << 60}, {math.MaxInt, 1 << 60},
	} {
		if got := bits.Count(c.bytes); got != c.want {
			t.Errorf("Count(%d): %d, want %d", c.bytes, got, c.want)
		}
	}
}

func TestWord(t *testing.T) {
	for _, c := range []struct {
		s    string
		i    int
		want uint64
	}{
		{"abcdefghi", 0, 0x6867666564636261},
		{"abcdefghi", 1, 0x69},
		{"abcdefghi", 2, 0},
		{"abcdefghi", -1, 0},
		{"abcdefgh", 0, 0x6867666564636261},
		{"abcdefgh", 1, 0},
		{"\xff\xff\xff\xff\xff\xff\xff\xff", 0, 1<<64 - 1},
		{"abcdefghijklmnop", 1, 0x706f6e6d6c6b6a69},
		{"", 0, 0},
		{"", -1, 0},
		{"abc", math.MaxInt, 0},
		{"abc", math.MinInt, 0},
		{"abc", 1 << 61, 0}, // eight times this goes round to 0
		{"abc", -1 << 61, 0},
		{"abcdefghi", 1<<61 + 1, 0},
	} {
		if got := bits.Word(c.s, c.i); got != c.want {
			t.Errorf("Word(%q, %d): %x, want %x", c.s, c.i, got, c.want)
		}
	}
}

func TestWords(t *testing.T) {
	for _, c := range []struct {
		s    string
		want []uint64
	}{
		{"", nil},
		{"a", []uint64{0x61}},
		{"abcdefgh", []uint64{0x6867666564636261}},
		{"abcdefghi", []uint64{0x6867666564636261, 0x69}},
		{"\x00", []uint64{0}},
		{"äö", []uint64{0xb6c3a4c3}},
	} {
		if got := bits.Words(c.s); !slices.Equal(got, c.want) {
			t.Errorf("Words(%q): %x, want %x", c.s, got, c.want)
		}
	}
}

// Words are just Count of them, each is Word of its number, and each byte is where it should be.
func TestWordsByteByByte(t *testing.T) {
	for _, s := range texts() {
		words := bits.Words(s)
		if len(words) != bits.Count(len(s)) {
			t.Fatalf("Words(%q): %d words, want %d", s, len(words), bits.Count(len(s)))
		}
		for i, word := range words {
			want := uint64(0)
			for k := 7; k >= 0; k-- {
				want *= 256
				if at := 8*i + k; at < len(s) {
					want += uint64(s[at])
				}
			}
			if word != want || bits.Word(s, i) != want {
				t.Errorf("word %d of %q: %x and %x, want %x", i, s, word, bits.Word(s, i), want)
			}
		}
		for _, i := range []int{-1, len(words), len(words) + 1} {
			if got := bits.Word(s, i); got != 0 {
				t.Errorf("Word(%q, %d): %x, want 0", s, i, got)
			}
		}
	}
}

func TestText(t *testing.T) {
	for _, c := range []struct {
		words []uint64
		n     int
		want  string
		ok    bool
	}{
		{nil, 0, "", true},
		{[]uint64{}, 0, "", true},
		{[]uint64{0x6867666564636261, 0x69}, 9, "abcdefghi", true},
		{[]uint64{0x6867666564636261}, 8, "abcdefgh", true},
		{[]uint64{0x636261}, 3, "abc", true},
		{[]uint64{0x636261}, 5, "abc\x00\x00", true},
		{[]uint64{1<<64 - 1}, 8, "\xff\xff\xff\xff\xff\xff\xff\xff", true},
		// n below 0
		{nil, -1, "", false},
		{[]uint64{0}, -1, "", false},
		{[]uint64{0}, -8, "", false},
		{[]uint64{0}, math.MinInt, "", false},
		// too few words
		{nil, 1, "", false},
		{[]uint64{0x61}, 9, "", false},
		{[]uint64{0x61, 0x62}, 17, "", false},
		{[]uint64{0}, math.MaxInt, "", false},
		{nil, math.MaxInt - 6, "", false},
		// a byte behind the n-th one
		{[]uint64{0x616263}, 2, "", false},
		{[]uint64{1 << 56}, 7, "", false},
		{[]uint64{1 << 63}, 7, "", false},
		{[]uint64{0x6867666564636261}, 7, "", false},
		{[]uint64{0x6867666564636261, 0x0100000000000069}, 9, "", false},
		// more words than n bytes need, be they blank or not
		{[]uint64{0}, 0, "", false},
		{[]uint64{0, 0}, 0, "", false},
		{[]uint64{1}, 0, "", false},
		{[]uint64{0x61, 0}, 1, "", false},
		{[]uint64{0x61, 0, 0}, 1, "", false},
		{[]uint64{0x6867666564636261, 0}, 7, "", false},
		{[]uint64{0x6867666564636261, 0}, 8, "", false},
		{[]uint64{0x6867666564636261, 0x69, 0}, 9, "", false},
		{[]uint64{0x6867666564636261, 0x69}, 8, "", false},
		{[]uint64{0x61, 0, 1}, 1, "", false},
		{make([]uint64, 4), 24, "", false},
	} {
		if got, ok := bits.Text(c.words, c.n); got != c.want || ok != c.ok {
			t.Errorf("Text(%x, %d): %q, %v, want %q, %v", c.words, c.n, got, ok, c.want, c.ok)
		}
	}
}

// P2.3: each byte behind the n-th one counts, wherever it is in so many words as n bytes need, and no other one.
func TestTextEveryByte(t *testing.T) {
	for count := range 4 {
		for at := range 8 * count {
			words := make([]uint64, count)
			words[at/8] = 1 << (at % 8 * 8)
			for n := -2; n <= 8*count+2; n++ {
				want := ""
				ok := n > at && n > 8*(count-1) && n <= 8*count
				if ok {
					want = strings.Repeat("\x00", at) + "\x01" + strings.Repeat("\x00", n-at-1)
				}
				if got, told := bits.Text(words, n); got != want || told != ok {
					t.Errorf("Text(%x, %d): %q, %v, want %q, %v", words, n, got, told, want, ok)
				}
			}
		}
	}
}

// P2.3: of blank words just those are a text that are as many as its bytes need.
func TestTextNeedsSoManyWords(t *testing.T) {
	for count := range 6 {
		for n := -1; n <= 50; n++ {
			want := ""
			ok := n >= 0 && count == (n+7)/8
			if ok {
				want = strings.Repeat("\x00", n)
			}
			if got, told := bits.Text(make([]uint64, count), n); got != want || told != ok {
				t.Errorf("Text of %d blank words, %d: %q, %v, want %q, %v", count, n, got, told, want, ok)
			}
		}
	}
}

// P2.4: texts come back.
func TestTextComesBack(t *testing.T) {
	for _, s := range texts() {
		words := bits.Words(s)
		if got, ok := bits.Text(words, len(s)); got != s || !ok {
			t.Errorf("Text of Words(%q): %q, %v", s, got, ok)
		}
		for _, more := range [][]uint64{{0}, {0, 0}, {1}} {
			if got, ok := bits.Text(slices.Concat(words, more), len(s)); got != "" || ok {
				t.Errorf("Text of Words(%q), and %x: %q, %v", s, more, got, ok)
			}
		}
	}
}

// R3: what is handed in stays, and what is told is the caller's.
func TestMemory(t *testing.T) {
	first := bits.Words("abcdefghi")
	first[0] = 0
	if got := bits.Words("abcdefghi"); got[0] != 0x6867666564636261 {
		t.Errorf("Words told once more: %x", got)
	}
	words := []uint64{0x6867666564636261, 0x69}
	s, _ := bits.Text(words, 9)
	if !slices.Equal(words, []uint64{0x6867666564636261, 0x69}) {
		t.Errorf("Text changed its words to %x", words)
	}
	words[0] = 0
	if s != "abcdefghi" {
		t.Errorf("a text that was told became %q", s)
	}
}
