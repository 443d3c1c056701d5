package sample

import "encoding/binary"

// NumForm is the form of a number from 0 on (chapter 1), by the library.
func NumForm(n int) string {
	return string(binary.AppendUvarint(nil, uint64(n)))
}

// TextForm is the form of a text.
func TextForm(s string) string {
	return NumForm(len(s)) + s
}

// TextsForm is the form of a list of texts.
func TextsForm(l ...string) string {
	b := []byte(NumForm(len(l)))
	for _, s := range l {
		b = append(b, TextForm(s)...)
	}
	return string(b)
}
