package bits

// byteBits is how many bits a byte has, wordBytes how many bytes a word has.
const (
	byteBits  = 8
	wordBytes = wordBits / byteBits
)

// Count is how many words hold so many bytes; 0 of bytes below 0.
func Count(bytes int) int {
	if bytes <= 0 {
		return 0
	}
	return (bytes-1)/wordBytes + 1 // one less ahead of the division: seven more might go round
}

// Word is the i-th eight bytes of s, the first byte the lowest one; bytes that s has not are 0.
func Word(s string, i int) uint64 {
	if i < 0 || i >= Count(len(s)) {
		return 0
	}
	rest := s[i*wordBytes:]
	word := uint64(0)
bytes:
	for k := range wordBytes {
		if k == len(rest) {
			break bytes
		}
		word |= uint64(rest[k]) << (k * byteBits)
	}
	return word
}

// Words is s in words, Count of them.
func Words(s string) []uint64 {
	words := make([]uint64, Count(len(s)))
	for i := range words {
		words[i] = Word(s, i)
	}
	return words
}

// Text is the first n bytes of the words, and true; nothing, and false, if n is below 0, the words are too few, or a byte behind the n-th one is not 0.
func Text(words []uint64, n int) (string, bool) {
	if n < 0 || Count(n) > len(words) || !isBlank(words, n) {
		return "", false
	}
	text := make([]byte, 0, n)
bytes:
	for _, word := range words {
		for k := range wordBytes {
			if len(text) == n {
				break bytes
			}
			text = append(text, byte(word>>(k*byteBits)))
		}
	}
	return string(text), true
}

// isBlank asks whether all bytes behind the n-th one are 0, in all of the words: more of them than n bytes need may be there.
func isBlank(words []uint64, n int) bool {
	whole := n / wordBytes
	if whole == len(words) {
		return true
	}
	if words[whole]>>(n%wordBytes*byteBits) != 0 {
		return false
	}
	for _, word := range words[whole+1:] {
		if word != 0 {
			return false
		}
	}
	return true
}
