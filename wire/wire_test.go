package wire

import (
	"hash/crc32"
	"math"
	"strings"
	"testing"

	"drizzle/api"
)

func TestTextOfASum(t *testing.T) {
	for _, c := range []struct {
		sum  Sum
		body string
	}{
		{Sum{Number: 1, Length: 0, Row: 1, Bytes: []byte{0}}, "\x01\x01\x00\x00\x00\x01\x00\x00\x00\x00"},
		{Sum{Number: 2, Length: 5, Row: 2, Bytes: []byte("o\x00\x00\x00")}, "\x01\x02\x00\x05\x00\x02\x00\x00\x00o\x00\x00\x00"},
		{Sum{Number: 500, Length: 1024, Row: math.MaxUint32, Bytes: []byte("xyz")}, "\x01\xf4\x01\x00\x04\xff\xff\xff\xffxyz"},
		{Sum{Number: 258, Length: 772, Row: 0x08070605, Bytes: nil}, "\x01\x02\x01\x04\x03\x05\x06\x07\x08"},
	} {
		if got := c.sum.Text(); got != sealed(c.body) {
			t.Errorf("the text of %+v = %x, want %x", c.sum, got, sealed(c.body))
		}
	}
}

func TestTextOfDone(t *testing.T) {
	for _, c := range []struct {
		done Done
		body string
	}{
		{Done{Number: 1, Block: 1}, "\x02\x01\x01\x00"},
		{Done{Number: 2, Block: 4}, "\x02\x04\x02\x00"},
		{Done{Number: 500, Block: 32}, "\x02\x20\xf4\x01"},
	} {
		if got := c.done.Text(); got != sealed(c.body) {
			t.Errorf("the text of %+v = %x, want %x", c.done, got, sealed(c.body))
		}
	}
}

func TestTextsOfDoneAreFramesOfTheirOwn(t *testing.T) {
	seen := map[string]Done{}
	for block := 1; block <= api.MaxBlock; block++ {
		for number := 1; number <= api.MaxNumber; number++ {
			done := Done{Number: number, Block: block}
			text := done.Text()
			if len(text) < api.MinFrame || len(text) > api.MaxFrame {
				t.Fatalf("the text of %+v has %d bytes", done, len(text))
			}
			if other, ok := seen[text]; ok {
				t.Fatalf("%+v and %+v have the same text", done, other)
			}
			seen[text] = done
		}
	}
}

func sameSum(a, b Sum) bool {
	return a.Number == b.Number && a.Length == b.Length && a.Row == b.Row && string(a.Bytes) == string(b.Bytes)
}

func TestReadSum(t *testing.T) {
	for block := 1; block <= api.MaxBlock; block++ {
		for _, sum := range []Sum{
			{Number: 1, Length: 0, Row: 1},
			{Number: 256, Length: 259, Row: 1 << 31},
			{Number: api.MaxNumber, Length: api.MaxBlocks * block, Row: math.MaxUint32},
			{Number: math.MaxUint16, Length: math.MaxUint16, Row: 0x04030201},
			{},
		} {
			sum.Bytes = []byte(strings.Repeat("\x00\xffrain", block))[:block]
			if got, ok := ReadSum(sum.Text(), block); !ok || !sameSum(got, sum) {
				t.Errorf("the sum %+v is read as %+v, %t", sum, got, ok)
			}
		}
	}
}

func TestReadSumOfOtherTexts(t *testing.T) {
	text := Sum{Number: 1, Length: 8, Row: 3, Bytes: []byte("rain")}.Text()
	other := []byte(text[:len(text)-checkSize])
	other[0] = byte(doneKind)
	texts := []string{
		Done{Number: 1, Block: 4}.Text(),
		sealed(string(other)),
		sealed("\x00" + string(other[1:])),
		text + "\x00", "\x00" + text, text + text, text[1:], sealed(text), strings.Repeat("x", 9000000),
		strings.Repeat("\x00", len(text)), strings.Repeat("\xff", len(text)),
	}
	for size := range text {
		texts = append(texts, text[:size])
	}
	for size := range 100 {
		texts = append(texts, strings.Repeat("\x01", size), sealed(strings.Repeat("\x02", size)))
	}
	for _, bad := range texts {
		if got, ok := ReadSum(bad, 4); ok || !sameSum(got, Sum{}) {
			t.Errorf("a text of %d bytes is read as %+v, %t", len(bad), got, ok)
		}
	}
	for block := 1; block <= api.MaxBlock; block++ {
		if got, ok := ReadSum(text, block); ok != (block == 4) {
			t.Errorf("the frame of a block of 4 bytes is read as one of %d: %+v, %t", block, got, ok)
		}
	}
}

// sealed is a text with the CRC-32 of the library behind it.
func sealed(body string) string {
	sum := crc32.ChecksumIEEE([]byte(body))
	return body + string([]byte{byte(sum), byte(sum >> 8), byte(sum >> 16), byte(sum >> 24)})
}

func TestTextHasTheBytesOfAFrame(t *testing.T) {
	for block := 1; block <= api.MaxBlock; block++ {
		text := Sum{Number: api.MaxNumber, Length: api.MaxBlocks * block, Row: 1, Bytes: make([]byte, block)}.Text()
		if len(text) < api.MinFrame || len(text) > api.MaxFrame {
			t.Errorf("a frame of a block of %d bytes has %d", block, len(text))
		}
	}
}

func TestTextLeavesTheSumAsItIs(t *testing.T) {
	room := []byte("abcdefgh")
	Sum{Number: 1, Length: 4, Row: 1, Bytes: room[:4]}.Text()
	if string(room) != "abcdefgh" {
		t.Errorf("the bytes of the sum and what lies behind them are %q now", room)
	}
}

func TestCheck(t *testing.T) {
	for _, c := range []struct {
		text string
		want uint32
	}{
		{"", 0}, {"123456789", 0xCBF43926}, {"\x00", 0xD202EF8D}, {"\x00\x00", 0x41D912FF}, {"\xff", 0xFF000000},
	} {
		if got := check([]byte(c.text)); got != c.want {
			t.Errorf("the check of %q = %x, want %x", c.text, got, c.want)
		}
	}
	for size := range api.MaxFrame {
		text := []byte(strings.Repeat("rain\x00\x80\xff", size))[:size]
		if got, want := check(text), crc32.ChecksumIEEE(text); got != want {
			t.Errorf("the check of %q = %x, want %x", text, got, want)
		}
	}
}

// holds is whether the check of a text is right, whatever stands in it.
func holds(text []byte) bool {
	body := text[:len(text)-checkSize]
	return string(text) == sealed(string(body))
}

// spoil changes the bits of the run, of which the lowest one lies at the bit start of the text.
func spoil(text []byte, start int, run uint32) {
	for j := range 32 {
		if run>>j&1 == 1 {
			text[(start+j)/8] ^= 1 << ((start + j) % 8)
		}
	}
}

func TestNoSpoiledFrameIsAFrame(t *testing.T) {
	seed := uint32(1)
	for _, block := range []int{1, 4, 32} {
		for _, frame := range []string{
			Sum{Number: 3, Length: 2 * block, Row: 3, Bytes: []byte(strings.Repeat("~", block))}.Text(),
			Done{Number: 3, Block: block}.Text(),
		} {
			text := []byte(frame)
			if !holds(text) {
				t.Fatalf("the frame %x does not hold", text)
			}
			for start := range 8 * len(text) {
				for width := 1; width <= 32 && start+width <= 8*len(text); width++ {
					ends := uint32(1) | 1<<(width-1)
					seed = seed*1664525 + 1013904223
					inside := (uint32(1)<<(width-1) - 1) &^ 1
					for _, run := range []uint32{ends, ends | inside, ends | seed&inside} {
						spoil(text, start, run)
						if _, ok := ReadSum(string(text), block); ok || holds(text) {
							t.Fatalf("spoiled at the bit %d by %b the frame %x still holds", start, run, frame)
						}
						spoil(text, start, run)
					}
				}
			}
		}
	}
}
