package store

// sealBytes is how many bytes a seal has.
const sealBytes = 4

// sealed is a text with its seal behind it.
func sealed(text string) string {
	s := seal(text)
	return text + string([]byte{byte(s >> 24), byte(s >> 16), byte(s >> 8), byte(s)})
}

// unsealed is the text ahead of its seal; it is empty if the seal is not of this text.
func unsealed(file string) string {
	n := len(file) - sealBytes
	if n < 0 || sealed(file[:n]) != file {
		return ""
	}
	return file[:n]
}

// seal is the rest of a text's bits, divided as a polynomial by one of degree 32 (CRC-32, the highest bit first).
// Such a rest tells every change of up to 32 bits in a row, the seal's own among them: these bits are no multiple of the divisor.
func seal(text string) uint32 {
	const divisor = 0x04c11db7 // without its highest power
	rest := ^uint32(0)
	for i := range len(text) {
		rest ^= uint32(text[i]) << 24
		for range 8 {
			rest = rest<<1 ^ (rest>>31)*divisor
		}
	}
	return ^rest
}
