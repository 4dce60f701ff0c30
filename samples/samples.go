// Package samples is for the tests alone: arguments that are the same in every run, and what shows whether a call leaves memory to its owner.
package samples

import "strconv"

// Source yields one number after another.
type Source uint64

// New returns a Source; each number makes another one.
func New(number int) *Source {
	s := Source(number)
	return &s
}

// Below yields a number from 0 to n - 1.
func (s *Source) Below(n int) int {
	*s = *s*6364136223846793005 + 1442695040888963407
	return int(uint64(*s>>33) % uint64(n))
}

// Number yields numbers of all lengths, from 0 to MaxInt.
func (s *Source) Number() int {
	n := s.Below(1<<31)<<32 | s.Below(1<<31)<<1 | s.Below(2)
	return n >> s.Below(63)
}

// Bytes yields n bytes.
func (s *Source) Bytes(n int) []byte {
	b := make([]byte, n)
	for i := range b {
		b[i] = byte(s.Below(256))
	}
	return b
}

// CipherKey yields keys of aes, of both sizes.
func (s *Source) CipherKey() []byte {
	return s.Bytes(16 + 16*s.Below(2))
}

// Digits yields a string of n digits.
func (s *Source) Digits(n int) string {
	b := make([]byte, n)
	for i := range b {
		b[i] = byte('0' + s.Below(10))
	}
	return string(b)
}

// Card yields a card number of n digits.
func (s *Source) Card(n int) string {
	ahead := s.Digits(n - 1)
	return ahead + strconv.Itoa((10-LuhnSum(ahead+"0")%10)%10)
}

// LuhnSum returns the Luhn sum of digits: the words of the chapter on digits, written down a second time.
func LuhnSum(digits string) int {
	sum := 0
	for position := range len(digits) {
		weight := int(digits[len(digits)-1-position]-'0') * (1 + position%2)
		if weight > 9 {
			weight -= 9
		}
		sum += weight
	}
	return sum
}

// Cut divides bytes into parts of up to most bytes, some of them empty.
func (s *Source) Cut(whole []byte, most int) [][]byte {
	parts := [][]byte{nil}
	for rest := whole; len(rest) > 0; {
		n := s.Below(min(len(rest), most) + 1)
		parts = append(parts, rest[:n])
		rest = rest[n:]
	}
	return append(parts, []byte{})
}

// WrongKeys returns keys of no size that aes takes, two of them with spare capacity for one.
func WrongKeys() [][]byte {
	keys := [][]byte{nil, {}, make([]byte, 32)[:15], make([]byte, 32)[:24]}
	for _, size := range []int{1, 8, 15, 17, 24, 31, 33, 48, 64, 1 << 16} {
		keys = append(keys, make([]byte, size))
	}
	return keys
}

// Hex returns the bytes of a text of hexadecimal digits, two a byte.
func Hex(text string) []byte {
	b := make([]byte, len(text)/2)
	for i := range b {
		c, err := strconv.ParseUint(text[2*i:2*i+2], 16, 8)
		if err != nil {
			panic(err)
		}
		b[i] = byte(c)
	}
	return b
}

// The bytes around a framed copy.
const (
	ahead  = "before"
	behind = "and spare capacity behind it, in which the padding of a block, a key's zero bytes or a sector would find room, and a digest behind that"
)

// Framed returns a copy of p that has bytes around it, and those bytes with it.
func Framed(p []byte) (part, whole []byte) {
	whole = append(append([]byte(ahead), p...), behind...)
	return whole[len(ahead) : len(ahead)+len(p)], whole
}

// Spoil overwrites a result with its spare capacity.
func Spoil(b []byte) {
	b = b[:cap(b)]
	for i := range b {
		b[i] = 0xee
	}
}
