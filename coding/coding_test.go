package coding

import (
	"bytes"
	"math"
	"slices"
	"strings"
	"testing"

	"moneyer/samples"
)

// encoded is what the tests decode: two numbers, a string, and a list of strings with numbers.
func encoded() []byte {
	var w Writer
	w.Numbers(1, 258)
	w.Text("ab")
	w.Numbers(2)
	w.Text("")
	w.Numbers(3)
	w.Text("\xff")
	w.Numbers(math.MaxInt)
	return w.Bytes()
}

// contents is what encoded consists of.
type contents struct {
	first, second int
	text          string
	texts         []string
	numbers       []int
	whole         bool
}

// read decodes what encoded encodes.
func read(b []byte, most int) contents {
	r := NewReader(b)
	c := contents{first: r.Number(), second: r.Number(), text: r.Text()}
	r.List(most, func() {
		c.texts = append(c.texts, r.Text())
		c.numbers = append(c.numbers, r.Number())
	})
	c.whole = r.Whole()
	return c
}

func TestEncoding(t *testing.T) {
	want := slices.Concat(
		[]byte{0, 0, 0, 0, 0, 0, 0, 1}, []byte{0, 0, 0, 0, 0, 0, 1, 2},
		[]byte{0, 0, 0, 0, 0, 0, 0, 2, 'a', 'b'},
		[]byte{0, 0, 0, 0, 0, 0, 0, 2},
		[]byte{0, 0, 0, 0, 0, 0, 0, 0}, []byte{0, 0, 0, 0, 0, 0, 0, 3},
		[]byte{0, 0, 0, 0, 0, 0, 0, 1, 255}, []byte{127, 255, 255, 255, 255, 255, 255, 255},
	)
	if got := encoded(); !bytes.Equal(got, want) {
		t.Errorf("% x; want % x", got, want)
	}
	var none Writer
	none.Numbers()
	if len(none.Bytes()) != 0 {
		t.Errorf("no numbers are % x", none.Bytes())
	}
}

func TestDecoding(t *testing.T) {
	c := read(encoded(), 2)
	if c.first != 1 || c.second != 258 || c.text != "ab" || !slices.Equal(c.texts, []string{"", "\xff"}) || !slices.Equal(c.numbers, []int{3, math.MaxInt}) || !c.whole {
		t.Errorf("%v", c)
	}
	if r := NewReader(nil); !r.Whole() {
		t.Error("no bytes aren't the encoding of nothing")
	}
}

// With each byte missing, and with bytes behind.
func TestBytesThatAreNotWhole(t *testing.T) {
	whole := encoded()
	for n := range whole {
		if c := read(whole[:n], 2); c.whole {
			t.Errorf("%d bytes are %v", n, c)
		}
	}
	for n := range 20 {
		if c := read(append(encoded(), make([]byte, n+1)...), 2); c.whole {
			t.Errorf("with %d bytes behind it is %v", n+1, c)
		}
	}
}

func TestNumbersThatAreTooGreat(t *testing.T) {
	for _, first := range []byte{128, 129, 255} {
		for _, other := range []byte{0, 1, 255} {
			b := []byte{first, other, other, other, other, other, other, other}
			r := NewReader(b)
			if n := r.Number(); n != 0 || r.Whole() {
				t.Errorf("% x is %d", b, n)
			}
			r = NewReader(append(b, "text"...))
			if text := r.Text(); text != "" || r.Whole() {
				t.Errorf("% x ahead of a text: %q", b, text)
			}
			r = NewReader(b)
			r.List(math.MaxInt, func() { t.Fatalf("% x ahead of a list", b) })
			if r.Whole() {
				t.Errorf("% x ahead of a list is whole", b)
			}
		}
	}
}

func TestLengthsOfTexts(t *testing.T) {
	for _, size := range []int{0, 1, 7, 8, 255, 256, 1 << 16, 1 << 20} {
		var w Writer
		w.Text(strings.Repeat("x", size))
		r := NewReader(w.Bytes())
		if text := r.Text(); text != strings.Repeat("x", size) || !r.Whole() {
			t.Errorf("a text of %d bytes has %d", size, len(text))
		}
	}
	for _, size := range []int{5, 6, 1 << 20, 1 << 32, 1<<32 + 4, 1 << 62, math.MaxInt} {
		var w Writer
		w.Numbers(size)
		r := NewReader(append(w.Bytes(), "text"...))
		if text := r.Text(); text != "" || r.Whole() {
			t.Errorf("four bytes as a text of %d: %q", size, text)
		}
	}
}

// Of the elements of a list that is too long, none is decoded.
func TestLengthsOfLists(t *testing.T) {
	for size := range 10 {
		for most := range 10 {
			var w Writer
			w.Numbers(size)
			for i := range size {
				w.Numbers(i)
			}
			var got []int
			r := NewReader(w.Bytes())
			r.List(most, func() { got = append(got, r.Number()) })
			if right := size <= most; r.Whole() != right || right && len(got) != size || !right && got != nil {
				t.Errorf("a list of %d, of at most %d: %v", size, most, got)
			}
		}
	}
	for _, size := range []int{3, 1 << 32, 1 << 62, math.MaxInt} {
		var w Writer
		w.Numbers(size, 1, 2)
		calls := 0
		r := NewReader(w.Bytes())
		r.List(math.MaxInt, func() { r.Number(); calls++ })
		if calls != 3 || r.Whole() {
			t.Errorf("two elements as a list of %d: %d calls", size, calls)
		}
	}
}

func TestAReaderThatFailedReadsNothing(t *testing.T) {
	for _, fail := range []func(r *Reader){
		func(r *Reader) { r.List(0, func() {}) },
		func(r *Reader) { r.take(1 << 20) },
	} {
		r := NewReader(encoded())
		fail(r)
		if n, text := r.Number(), r.Text(); n != 0 || text != "" || r.Whole() {
			t.Errorf("%d, %q, whole: %t", n, text, r.Whole())
		}
		r.List(100, func() { t.Error("an element") })
	}
}

func TestTextsHaveTheirOwnMemory(t *testing.T) {
	b := encoded()
	c := read(b, 2)
	samples.Spoil(b)
	if c.text != "ab" || c.texts[1] != "\xff" {
		t.Errorf("%v", c)
	}
}

func TestRandomNumbersComeBack(t *testing.T) {
	from := samples.New(241)
	for range 10000 {
		n := from.Number()
		var w Writer
		w.Numbers(n)
		r := NewReader(w.Bytes())
		if got := r.Number(); got != n || len(w.Bytes()) != 8 || !r.Whole() {
			t.Fatalf("%d became %d", n, got)
		}
	}
}
