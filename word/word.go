// Package word: words and their parts: see doc/01-word.md.
package word

// width counts bits. It has no sign, so that a shift by it can't panic.
type width uint

// Doubled from one to the next, so that a byte's and a word's can't disagree.
const (
	byteBits width = 8 << iota
	_
	_
	wordBits
)

const wordBytes = int(wordBits / byteBits)

// Sext: see the chapter.
func Sext(v uint64, bits int) uint64 {
	above := bitsAbove(bits)
	return uint64(int64(v<<above) >> above)
}

// Zext: see the chapter.
func Zext(v uint64, bits int) uint64 {
	above := bitsAbove(bits)
	return v << above >> above
}

// Bits: see the chapter.
func Bits(v uint64, lo, n int) uint64 {
	from, many := part(lo, n)
	return v >> from & ones(many)
}

// Set: see the chapter.
func Set(v uint64, lo, n int, x uint64) uint64 {
	from, many := part(lo, n)
	place := ones(many) << from
	return v&^place | x<<from&place
}

// Get: see the chapter.
func Get(b string, at, n int) uint64 {
	n = held(n, 0, wordBytes)
	// Far places go first: of the least int -at is no int, nor at + n of the greatest.
	if at <= -n || at >= len(b) {
		return 0
	}
	var row [wordBytes]byte
	missing := max(-at, 0)
	copy(row[missing:n], b[max(at, 0):])
	return number(row)
}

// Bytes: see the chapter.
func Bytes(v uint64, n int) string {
	var row [wordBytes]byte
	for i := range row {
		row[i] = byte(v >> bitsBelow(i))
	}
	return string(row[:held(n, 0, wordBytes)])
}

// High: see the chapter.
func High(a, b uint64) bool { return int64(a) < int64(b) }

func held(x, least, most int) int { return min(max(x, least), most) }

// bitsAbove: of a word, above its lowest bits.
func bitsAbove(bits int) width { return wordBits - width(held(bits, 1, int(wordBits))) }

// bitsBelow: of a word, below its byte i.
func bitsBelow(i int) width { return width(i) * byteBits }

// part: n is held by what is left above lo, so lo must be held first.
func part(lo, n int) (from, many width) {
	lo = held(lo, 0, int(wordBits)-1)
	n = held(n, 0, int(wordBits)-lo)
	return width(lo), width(n)
}

// ones needs no case of its own for a whole word: the shift leaves 0, and one less is all ones.
func ones(many width) uint64 { return uint64(1)<<many - 1 }

func number(row [wordBytes]byte) uint64 {
	v := uint64(0)
	for i, c := range row {
		v |= uint64(c) << bitsBelow(i)
	}
	return v
}
