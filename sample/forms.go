package sample

// seven is how many numbers the lowest seven bits of a byte tell apart, and the bit above them.
const seven = 1 << 7

// NumForm is the form of a number from 0 on (chapter 1).
func NumForm(n int) string {
	var b []byte
	rest := uint64(n)
	for ; rest >= seven; rest /= seven {
		b = append(b, byte(rest%seven+seven))
	}
	return string(append(b, byte(rest)))
}

// TextForm is the form of a text.
func TextForm(s string) string {
	return NumForm(len(s)) + s
}

// TextsForm is the form of a list of texts.
func TextsForm(l ...string) string {
	b := []byte(NumForm(len(l)))
	for _, s := range l {
		b = append(b, TextForm(s)...)
	}
	return string(b)
}
