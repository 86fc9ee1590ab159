package tutor

// wordBytes is how many bytes a number has in a text.
const wordBytes = 4

// words are the numbers of a text.
func words(text string) []uint32 {
	l := make([]uint32, len(text)/wordBytes)
	for i := range l {
		b := text[wordBytes*i:]
		l[i] = uint32(b[0])<<24 | uint32(b[1])<<16 | uint32(b[2])<<8 | uint32(b[3])
	}
	return l
}

// appendWords puts numbers behind a text.
func appendWords(text []byte, l ...uint32) []byte {
	for _, w := range l {
		text = append(text, byte(w>>24), byte(w>>16), byte(w>>8), byte(w))
	}
	return text
}
