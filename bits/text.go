package bits

// byteBits is how many bits a byte has, wordBytes how many bytes a word has.
const (
	byteBits  = 8
	wordBytes = wordBits / byteBits
)

// Count is how many words hold so many bytes; 0 of bytes below 0.
func Count(bytes int) int {
	if bytes <= 0 {
		return 0
	}
	return (bytes-1)/wordBytes + 1 // one less ahead of the division: seven more might go round
}

// Word is the i-th eight bytes of s, the first byte the lowest one; bytes that s has not are 0.
func Word(s string, i int) uint64 {
	if i < 0 || i >= Count(len(s)) {
		return 0
	}
	rest := s[i*wordBytes:]
	word := uint64(0)
bytes:
	for k := range wordBytes {
		if k == len(rest) {
			break bytes
		}
		word |= uint64(rest[k]) << (k * byteBits)
	}
	return word
}

// Words is s in words, Count of them.
func Words(s string) []uint64 {
	words := make([]uint64, Count(len(s)))
	for i := range words {
		words[i] = Word(s, i)
	}
	return words
}

// Text is the first n bytes of the words, and true; nothing, and false, if n is below 0, the words are fewer or more than n bytes need, or a byte behind the n-th one is not 0.
func Text(words []uint64, n int) (string, bool) {
	if n < 0 || len(words) != Count(n) || !isBlank(words, n) {
		return "", false
	}
	text := make([]byte, 0, n)
bytes:
	for _, word := range words {
		for k := range wordBytes {
			if len(text) == n {
				break bytes
			}
			text = append(text, byte(word>>(k*byteBits)))
		}
	}
	return string(text), true
}

// isBlank asks whether all bytes behind the n-th one are 0. The words are just as many as n bytes need, so that only the last one can have such bytes.
func isBlank(words []uint64, n int) bool {
	used := n % wordBytes
	return used == 0 || words[len(words)-1]>>(used*byteBits) == 0
}
