// Package wire: how what a sender and a receiver tell each other stands in the bytes of a frame.
package wire

// kind is the first byte of a frame: by it neither side takes its own frames for those of the other one.
type kind byte

const (
	sumKind kind = 1 + iota
	doneKind
)

// How many bytes the parts of a frame take.
const (
	kindSize   = 1
	blockSize  = 1
	numberSize = 2
	lengthSize = 2
	rowSize    = 4
	checkSize  = 4
)

// Sum is what a frame of an object tells: one sum, and of what.
type Sum struct {
	Number int    // of the object
	Length int    // of the object, in bytes: how many blocks it has follows, and where the filling of the last one begins
	Row    uint32 // the blocks that are in the sum
	Bytes  []byte // the sum: as many bytes as a block has
}

// Text is the frame that tells of the sum.
func (s Sum) Text() string {
	text := []byte{byte(sumKind)}
	text = appendNumber(text, uint32(s.Number), numberSize)
	text = appendNumber(text, uint32(s.Length), lengthSize)
	text = appendNumber(text, s.Row, rowSize)
	text = append(text, s.Bytes...)
	return seal(text)
}

// ReadSum is what a frame of an object tells, whose blocks have so many bytes. Any other text, and a frame that was spoiled, is not ok. Whether what is told can be, ReadSum does not ask.
func ReadSum(text string, block int) (sum Sum, ok bool) {
	if len(text) != kindSize+numberSize+lengthSize+rowSize+block+checkSize {
		return Sum{}, false
	}
	body := []byte(text[:len(text)-checkSize])
	if kind(body[0]) != sumKind || seal(body) != text {
		return Sum{}, false
	}
	number, rest := cutNumber(body[kindSize:], numberSize)
	length, rest := cutNumber(rest, lengthSize)
	row, rest := cutNumber(rest, rowSize)
	return Sum{Number: int(number), Length: int(length), Row: row, Bytes: rest}, true
}

// Done is what a frame of a receiver tells: that an object was delivered.
type Done struct {
	Number int // of the object
	Block  int // how many bytes a block has: the objects of a network of other blocks have the same numbers
}

// Text is the frame that tells so.
func (d Done) Text() string {
	text := []byte{byte(doneKind)}
	text = appendNumber(text, uint32(d.Block), blockSize)
	text = appendNumber(text, uint32(d.Number), numberSize)
	return seal(text)
}

// seal makes a frame of its bytes: the check stands behind them.
func seal(text []byte) string {
	return string(appendNumber(text, check(text), checkSize))
}

// appendNumber lays down the lowest byte first: in that order the bits of the check follow on those that it was worked out from, so that a run of spoiled bits which reaches into the check is a run for the check too.
func appendNumber(text []byte, number uint32, size int) []byte {
	for range size {
		text = append(text, byte(number))
		number >>= 8
	}
	return text
}

// cutNumber is the number at the front of the text, and what follows on it.
func cutNumber(text []byte, size int) (uint32, []byte) {
	number := uint32(0)
	for i, b := range text[:size] {
		number |= uint32(b) << (8 * i)
	}
	return number, text[size:]
}
