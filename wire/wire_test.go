package wire

import (
	"hash/crc32"
	"math"
	"strings"
	"testing"

	"drizzle/api"
)

func TestTextOfASum(t *testing.T) {
	for _, c := range []struct {
		sum  Sum
		body string
	}{
		{Sum{Number: 1, Length: 0, Row: 1, Bytes: []byte{0}}, "\x01\x01\x00\x00\x00\x01\x00\x00\x00\x00"},
		{Sum{Number: 2, Length: 5, Row: 2, Bytes: []byte("o\x00\x00\x00")}, "\x01\x02\x00\x05\x00\x02\x00\x00\x00o\x00\x00\x00"},
		{Sum{Number: 500, Length: 1024, Row: math.MaxUint32, Bytes: []byte("xyz")}, "\x01\xf4\x01\x00\x04\xff\xff\xff\xffxyz"},
		{Sum{Number: 258, Length: 772, Row: 0x08070605, Bytes: nil}, "\x01\x02\x01\x04\x03\x05\x06\x07\x08"},
	} {
		if got := c.sum.Text(); got != sealed(c.body) {
			t.Errorf("the text of %+v = %x, want %x", c.sum, got, sealed(c.body))
		}
	}
}

// sealed is a text with the CRC-32 of the library behind it.
func sealed(body string) string {
	sum := crc32.ChecksumIEEE([]byte(body))
	return body + string([]byte{byte(sum), byte(sum >> 8), byte(sum >> 16), byte(sum >> 24)})
}

func TestTextHasTheBytesOfAFrame(t *testing.T) {
	for block := 1; block <= api.MaxBlock; block++ {
		text := Sum{Number: api.MaxNumber, Length: api.MaxBlocks * block, Row: 1, Bytes: make([]byte, block)}.Text()
		if len(text) < api.MinFrame || len(text) > api.MaxFrame {
			t.Errorf("a frame of a block of %d bytes has %d", block, len(text))
		}
	}
}

func TestTextLeavesTheSumAsItIs(t *testing.T) {
	room := []byte("abcdefgh")
	Sum{Number: 1, Length: 4, Row: 1, Bytes: room[:4]}.Text()
	if string(room) != "abcdefgh" {
		t.Errorf("the bytes of the sum and what lies behind them are %q now", room)
	}
}

func TestCheck(t *testing.T) {
	for _, c := range []struct {
		text string
		want uint32
	}{
		{"", 0}, {"123456789", 0xCBF43926}, {"\x00", 0xD202EF8D}, {"\x00\x00", 0x41D912FF}, {"\xff", 0xFF000000},
	} {
		if got := check([]byte(c.text)); got != c.want {
			t.Errorf("the check of %q = %x, want %x", c.text, got, c.want)
		}
	}
	for size := range api.MaxFrame {
		text := []byte(strings.Repeat("rain\x00\x80\xff", size))[:size]
		if got, want := check(text), crc32.ChecksumIEEE(text); got != want {
			t.Errorf("the check of %q = %x, want %x", text, got, want)
		}
	}
}

func holds(text []byte) bool {
	body := text[:len(text)-checkSize]
	return string(text) == sealed(string(body))
}

// spoil changes the bits of the run, of which the lowest one lies at the bit start of the text.
func spoil(text []byte, start int, run uint32) {
	for j := range 32 {
		if run>>j&1 == 1 {
			text[(start+j)/8] ^= 1 << ((start + j) % 8)
		}
	}
}

func TestNoSpoiledFrameIsAFrame(t *testing.T) {
	seed := uint32(1)
	for _, block := range []int{1, 4, 32} {
		text := []byte(Sum{Number: 3, Length: 2 * block, Row: 3, Bytes: []byte(strings.Repeat("~", block))}.Text())
		if !holds(text) {
			t.Fatalf("the frame %x does not hold", text)
		}
		for start := range 8 * len(text) {
			for width := 1; width <= 32 && start+width <= 8*len(text); width++ {
				ends := uint32(1) | 1<<(width-1)
				seed = seed*1664525 + 1013904223
				inside := (uint32(1)<<(width-1) - 1) &^ 1
				for _, run := range []uint32{ends, ends | inside, ends | seed&inside} {
					spoil(text, start, run)
					if holds(text) {
						t.Fatalf("spoiled at the bit %d by %b the frame still holds", start, run)
					}
					spoil(text, start, run)
				}
			}
		}
	}
}
