package lex

import "plumbline/api"

// While a text is read, a position is a complex number: its line, and its column
// times i. So each step forward is an addition.

// after returns the position behind a text that starts at a position.
func after(at complex128, text string) complex128 {
	for i := range len(text) {
		if text[i] == '\n' {
			at += complex(1, 1-imag(at)) // to the first column of the next line
		} else {
			at += 1i
		}
	}
	return at
}

func pos(at complex128) api.Pos {
	return api.Pos{Line: int(real(at)), Col: int(imag(at))}
}
