package wire

// checkDivisor is the divisor of CRC-32, of degree 32, its bits turned round.
const checkDivisor = 0xEDB88320

// check is the CRC-32 of the text. It takes the bits of each byte from the lowest one on, as the runs of spoiled bits are counted: a remainder of 32 bits changes with every run of at most 32 bits, whichever of them are changed.
func check(text []byte) uint32 {
	rest := ^uint32(0) // not 0: else bytes 0 in front would go unseen
	for _, b := range text {
		rest ^= uint32(b)
		for range 8 {
			rest = divideBit(rest)
		}
	}
	return ^rest
}

// divideBit takes the next bit out of the rest.
func divideBit(rest uint32) uint32 {
	if rest&1 == 0 {
		return rest >> 1
	}
	return rest>>1 ^ checkDivisor
}
