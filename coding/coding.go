// Package coding encodes numbers, strings and lists for the disk and decodes them, as the chapter on tenants words it: see shared/doc/18-tenant.md.
package coding

// numberSize is how many bytes a number has, and the length of a string or a list.
const numberSize = 8

// Writer encodes one thing after another.
type Writer struct {
	b []byte
}

// Numbers encodes numbers. The number of a list's elements is encoded ahead of them.
func (w *Writer) Numbers(numbers ...int) {
	for _, n := range numbers {
		for i := range numberSize {
			w.b = append(w.b, byte(n>>(8*(numberSize-1-i))))
		}
	}
}

// Text encodes a string.
func (w *Writer) Text(text string) {
	w.Numbers(len(text))
	w.b = append(w.b, text...)
}

// Bytes returns what was encoded.
func (w *Writer) Bytes() []byte {
	return w.b
}

// Reader decodes one thing after another. Once it fails it reads zero values alone, so it needs to be asked only at the end.
type Reader struct {
	rest   []byte
	failed bool
}

// NewReader returns a reader of an encoding.
func NewReader(b []byte) *Reader {
	return &Reader{rest: b}
}

// Number decodes a number.
func (r *Reader) Number() int {
	n := 0
	for _, x := range r.take(numberSize) {
		n = n<<8 | int(x)
	}
	// One that is greater than MaxInt wraps round.
	if n < 0 {
		r.failed = true
		return 0
	}
	return n
}

// Text decodes a string.
func (r *Reader) Text() string {
	return string(r.take(r.Number()))
}

// List decodes a list: each element by a call of a function. Longer lists than permitted aren't decoded, as their length may be any number.
func (r *Reader) List(most int, element func()) {
	size := r.Number()
	if size > most {
		r.failed = true
	}
	for i := 0; i < size && !r.failed; i++ {
		element()
	}
}

// Whole reports whether the encoding was that of exactly the things that were read.
func (r *Reader) Whole() bool {
	return !r.failed && len(r.rest) == 0
}

// take returns the next bytes, if there are as many.
func (r *Reader) take(size int) []byte {
	if r.failed || size > len(r.rest) {
		r.failed = true
		return nil
	}
	part := r.rest[:size]
	r.rest = r.rest[size:]
	return part
}
