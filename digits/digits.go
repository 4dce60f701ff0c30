// Package digits is layer 1: strings of decimal digits: see shared/doc/01-digits.md.
package digits

import "moneyer/api"

// maxWidth is how many digits MaxInt has: no number needs more.
const maxWidth = 19

// weights has a row for even positions from the end of a string and one for odd positions, each with the weights of the digits 0 to 9.
var weights = [2][10]int{
	{0, 1, 2, 3, 4, 5, 6, 7, 8, 9},
	{0, 2, 4, 6, 8, 1, 3, 5, 7, 9},
}

// Pack returns a digit string with two digits in each byte.
func Pack(s string) ([]byte, api.Errno) {
	if err := fault(s); err != api.OK {
		return nil, err
	}
	b := make([]byte, packedSize(len(s)))
	// Halves are counted from the 0 that an odd number of digits has before it.
	lead := len(s) % 2
	for i := range len(s) {
		half := lead + i
		if half%2 == 0 {
			b[half/2] = value(s[i]) << 4
		} else {
			b[half/2] |= value(s[i])
		}
	}
	return b, api.OK
}

// Unpack returns the n packed digits at the beginning of b, and how many bytes they occupy.
func Unpack(b []byte, n int) (string, int, api.Errno) {
	if n < 0 {
		return "", 0, api.ErrArg
	}
	if n > api.MaxDigits {
		return "", 0, api.ErrLong
	}
	size := packedSize(n)
	if len(b) < size {
		return "", 0, api.ErrEnd
	}
	lead := n % 2
	if lead == 1 && halfOf(b, 0) != 0 {
		return "", 0, api.ErrForm
	}
	text := make([]byte, n)
	for i := range n {
		d := halfOf(b, lead+i)
		if d > 9 {
			return "", 0, api.ErrForm
		}
		text[i] = '0' + d
	}
	return string(text), size, api.OK
}

// Luhn returns the check digit that makes a digit string valid when it follows it.
func Luhn(s string) (int, api.Errno) {
	if err := fault(s); err != api.OK {
		return 0, err
	}
	return (10 - luhnSum(s, 1)%10) % 10, api.OK
}

// Valid reports whether a digit string ends in its check digit.
func Valid(s string) bool {
	return s != "" && fault(s) == api.OK && luhnSum(s, 0)%10 == 0
}

// Number returns the number that a digit string denotes.
func Number(s string) (int, api.Errno) {
	if err := fault(s); err != api.OK {
		return 0, err
	}
	if s == "" {
		return 0, api.ErrEnd
	}
	n := 0
	for i := range len(s) {
		d := int(value(s[i]))
		// Asked before the step: 10n+d would wrap round.
		if n > (api.MaxInt-d)/10 {
			return 0, api.ErrNum
		}
		n = 10*n + d
	}
	return n, api.OK
}

// Text returns the digits of n, with leading zeros up to the width.
func Text(n, width int) (string, api.Errno) {
	if n < 0 || width < 1 || width > maxWidth {
		return "", api.ErrArg
	}
	text := make([]byte, width)
	for i := range width {
		text[width-1-i] = '0' + byte(n%10)
		n /= 10
	}
	if n > 0 {
		return "", api.ErrNum
	}
	return string(text), api.OK
}

// fault returns why s is no digit string; a wrong byte counts before the length.
func fault(s string) api.Errno {
	for i := range len(s) {
		if s[i] < '0' || s[i] > '9' {
			return api.ErrForm
		}
	}
	if len(s) > api.MaxDigits {
		return api.ErrLong
	}
	return api.OK
}

// luhnSum returns the sum of the weights that the digits of s have if so many others follow them.
func luhnSum(s string, following int) int {
	sum := 0
	for i := range len(s) {
		position := len(s) - 1 - i + following
		sum += weights[position%2][value(s[i])]
	}
	return sum
}

// value returns the number of a digit.
func value(digit byte) byte {
	return digit - '0'
}

// packedSize returns how many bytes n digits occupy.
func packedSize(n int) int {
	return (n + 1) / 2
}

// halfOf returns four bits of b: the upper ones of a byte at even indices, the lower ones at odd indices.
func halfOf(b []byte, index int) byte {
	if index%2 == 0 {
		return b[index/2] >> 4
	}
	return b[index/2] & 0x0f
}
