package radix

import (
	"bytes"
	"fmt"
	"math/big"
	"strings"
	"testing"

	"moneyer/api"
	"moneyer/samples"
)

// wrongLengths are no numbers of digits.
func wrongLengths() []int {
	return []int{0, -1, -2, -16, api.MinInt, api.MinInt + 1, 17, 18, 19, 20, 32, 64, 256 + 3, 1<<32 + 3, api.MaxInt}
}

// power is 10^m as the document means it, without the help of Power.
func power(m int) *big.Int {
	return new(big.Int).Exp(big.NewInt(10), big.NewInt(int64(m)), nil)
}

// greatest is the greatest number below 10^m.
func greatest(m int) int {
	return int(power(m).Int64()) - 1
}

// modulo is n modulo 10^m, which is never negative.
func modulo(n *big.Int, m int) int {
	return int(new(big.Int).Mod(n, power(m)).Int64())
}

// edges are the numbers of m digits at which something may go wrong.
func edges(m int) []int {
	most := greatest(m)
	return []int{0, 1, 2, most / 2, most/2 + 1, most - 1, most}
}

// outside are numbers that are not from 0 to below 10^m.
func outside(m int) []int {
	most := greatest(m)
	return []int{-1, -most, -most - 1, api.MinInt, most + 1, most + 2, 10 * (most + 1), api.MaxInt - 1, api.MaxInt}
}

// number yields numbers of m digits; many of them have fewer without leading zeros.
func number(from *samples.Source, m int) int {
	return from.Number() % (greatest(m) + 1)
}

// result asks for a number without an error, and tells what was called.
func result(t *testing.T, call string, got int, err api.Errno, want int) {
	t.Helper()
	if got != want || err != api.OK {
		t.Fatalf("%s: %d, %d; want %d", call, got, err, want)
	}
}

// refusal asks for an error beside 0, and tells what was called.
func refusal(t *testing.T, call string, got int, err, want api.Errno) {
	t.Helper()
	if got != 0 || err != want {
		t.Errorf("%s: %d, %d; want 0, %d", call, got, err, want)
	}
}

func value(t *testing.T, s string, want int) {
	t.Helper()
	n, err := Value(s)
	result(t, fmt.Sprintf("Value(%q)", s), n, err, want)
}

func writes(t *testing.T, n, m int, want string) {
	t.Helper()
	if s, err := Digits(n, m); s != want || err != api.OK {
		t.Fatalf("Digits(%d, %d): %q, %d; want %q", n, m, s, err, want)
	}
}

func rest(t *testing.T, b []byte, m int) int {
	t.Helper()
	n, err := Rest(b, m)
	if err != api.OK {
		t.Fatalf("Rest(% x, %d): %d, %d", b, m, n, err)
	}
	return n
}

func add(t *testing.T, a, b, m int) int {
	t.Helper()
	n, err := Add(a, b, m)
	if err != api.OK {
		t.Fatalf("Add(%d, %d, %d): %d, %d", a, b, m, n, err)
	}
	return n
}

func sub(t *testing.T, a, b, m int) int {
	t.Helper()
	n, err := Sub(a, b, m)
	if err != api.OK {
		t.Fatalf("Sub(%d, %d, %d): %d, %d", a, b, m, n, err)
	}
	return n
}

// P9.1: Power and Width.

func TestPowers(t *testing.T) {
	for m, want := range map[int]int{1: 10, 2: 100, 3: 1000, 6: 1000000, 10: 10000000000, 15: 1000000000000000, 16: 10000000000000000} {
		if n := Power(m); n != want {
			t.Errorf("Power(%d): %d; want %d", m, n, want)
		}
	}
	for m := 1; m <= 16; m++ {
		if text := fmt.Sprint(Power(m)); text != "1"+strings.Repeat("0", m) {
			t.Errorf("Power(%d): %s", m, text)
		}
	}
}

func TestWidths(t *testing.T) {
	for i, want := range []int{1, 1, 2, 2, 3, 3, 3, 4, 4, 5, 5, 5, 6, 6, 7, 7} {
		if n := Width(i + 1); n != want {
			t.Errorf("Width(%d): %d; want %d", i+1, n, want)
		}
	}
	for m := 1; m <= 16; m++ {
		if b := big.NewInt(int64(greatest(m))).Bytes(); Width(m) != len(b) {
			t.Errorf("Width(%d): %d, but the greatest number is % x", m, Width(m), b)
		}
	}
}

func TestNoPowers(t *testing.T) {
	for _, m := range wrongLengths() {
		if n, width := Power(m), Width(m); n != 0 || width != 0 {
			t.Errorf("Power(%d): %d; Width: %d", m, n, width)
		}
	}
}

// P9.2: Value and Digits.

func TestValues(t *testing.T) {
	for s, want := range map[string]int{
		"0":                0,
		"7":                7,
		"9":                9,
		"00":               0,
		"10":               10,
		"0123":             123,
		"007":              7,
		"1000000":          1000000,
		"0000000000000000": 0,
		"0000000000000001": 1,
		"1000000000000000": 1000000000000000,
		"1234567890123456": 1234567890123456,
		"9999999999999999": 9999999999999999,
	} {
		value(t, s, want)
	}
}

func TestValuesAgreeWithBigNumbers(t *testing.T) {
	from := samples.New(131)
	for range 500 {
		for n := 1; n <= 16; n++ {
			s := from.Digits(n)
			want, _ := new(big.Int).SetString(s, 10)
			value(t, s, int(want.Int64()))
		}
	}
}

func TestValueRefuses(t *testing.T) {
	for s, want := range map[string]api.Errno{
		"":                                   api.ErrArg,
		"00000000000000000":                  api.ErrLong, // 17 digits
		"99999999999999999":                  api.ErrLong,
		"10000000000000000":                  api.ErrLong,
		"1234567890123456x":                  api.ErrLong, // 17 bytes, one of them wrong as well
		"x1234567890123456":                  api.ErrLong,
		"9223372036854775808":                api.ErrLong, // greater than MaxInt as well
		strings.Repeat("x", 17):              api.ErrLong,
		strings.Repeat("1", api.MaxDigits):   api.ErrLong,
		strings.Repeat("1", api.MaxDigits+1): api.ErrLong,
		strings.Repeat("1", 1<<16) + "x":     api.ErrLong,
		strings.Repeat("\u0663", 9):          api.ErrLong, // nine runes, but 18 bytes
		strings.Repeat("\u0663", 8):          api.ErrForm, // eight digits, but not in ASCII
		strings.Repeat("x", 16):              api.ErrForm,
		"123456789012345x":                   api.ErrForm,
		"x123456789012345":                   api.ErrForm,
		"x":                                  api.ErrForm,
		" ":                                  api.ErrForm,
		" 1":                                 api.ErrForm,
		"1 ":                                 api.ErrForm,
		"+1":                                 api.ErrForm,
		"-1":                                 api.ErrForm,
		"1_0":                                api.ErrForm,
		"1.0":                                api.ErrForm,
		"1e3":                                api.ErrForm,
		"0x10":                               api.ErrForm,
		"\x00":                               api.ErrForm,
		"\x01\x02":                           api.ErrForm,
		"\uff11":                             api.ErrForm,
	} {
		n, err := Value(s)
		refusal(t, fmt.Sprintf("Value(%.20q), %d bytes", s, len(s)), n, err, want)
	}
}

func TestValueAsksEveryByte(t *testing.T) {
	from := samples.New(132)
	for size := 1; size <= 16; size++ {
		for place := range size {
			b := []byte(from.Digits(size))
			for c := range 256 {
				b[place] = byte(c)
				if c >= '0' && c <= '9' {
					continue
				}
				n, err := Value(string(b))
				refusal(t, fmt.Sprintf("Value(%q)", b), n, err, api.ErrForm)
			}
		}
	}
}

func TestDigits(t *testing.T) {
	for _, c := range []struct {
		n, m int
		want string
	}{
		{0, 1, "0"},
		{7, 1, "7"},
		{9, 1, "9"},
		{0, 3, "000"},
		{7, 3, "007"},
		{10, 2, "10"},
		{123, 4, "0123"},
		{999, 3, "999"},
		{0, 16, "0000000000000000"},
		{1, 16, "0000000000000001"},
		{1234567890123456, 16, "1234567890123456"},
		{9999999999999999, 16, "9999999999999999"},
		{999999999999999, 15, "999999999999999"},
		{999999999999999, 16, "0999999999999999"},
	} {
		writes(t, c.n, c.m, c.want)
	}
}

func TestDigitsOfEveryLength(t *testing.T) {
	from := samples.New(133)
	for m := 1; m <= 16; m++ {
		for _, n := range edges(m) {
			writes(t, n, m, fmt.Sprintf("%0*d", m, n))
		}
		for range 200 {
			n := number(from, m)
			writes(t, n, m, fmt.Sprintf("%0*d", m, n))
		}
	}
}

func TestDigitsRefuses(t *testing.T) {
	refuses := func(n, m int) {
		t.Helper()
		if s, err := Digits(n, m); s != "" || err != api.ErrArg {
			t.Errorf("Digits(%d, %d): %q, %d; want ErrArg", n, m, s, err)
		}
	}
	for m := 1; m <= 16; m++ {
		for _, n := range outside(m) {
			refuses(n, m)
		}
	}
	for _, m := range wrongLengths() {
		for _, n := range []int{0, 1, -1, 9999999999999999, 10000000000000000, api.MinInt, api.MaxInt} {
			refuses(n, m)
		}
	}
}

// P9.3: Rest.

func TestRests(t *testing.T) {
	all := bytes.Repeat([]byte{0xff}, 64)
	for _, c := range []struct {
		b    []byte
		m    int
		want int
	}{
		{nil, 1, 0},
		{[]byte{}, 16, 0},
		{[]byte{0}, 1, 0},
		{[]byte{9}, 1, 9},
		{[]byte{10}, 1, 0},
		{[]byte{255}, 1, 5},
		{[]byte{255}, 3, 255},
		{[]byte{1, 0}, 2, 56},
		{[]byte{1, 0}, 3, 256},
		{[]byte{0, 1}, 3, 1},
		{[]byte{1, 0, 0}, 16, 65536},
		{[]byte{0x23, 0x86, 0xf2, 0x6f, 0xc0, 0xff, 0xff}, 16, 9999999999999999},
		{[]byte{0x23, 0x86, 0xf2, 0x6f, 0xc1, 0, 0}, 16, 0},                     // 10^16
		{[]byte{0x23, 0x86, 0xf2, 0x6f, 0xc1, 0, 1}, 16, 1},                     // one more
		{[]byte{0x7f, 255, 255, 255, 255, 255, 255, 255}, 16, 3372036854775807}, // MaxInt
		{[]byte{0x80, 0, 0, 0, 0, 0, 0, 0}, 16, 3372036854775808},
		{[]byte{255, 255, 255, 255, 255, 255, 255, 255}, 16, 6744073709551615}, // 2^64 - 1
		{[]byte{1, 0, 0, 0, 0, 0, 0, 0, 0}, 16, 6744073709551616},              // which wraps round to 0
		{all, 1, 5}, // 2^512 - 1
		{all, 7, 6084095},
		{all, 16, 6433649006084095},
	} {
		n, err := Rest(c.b, c.m)
		result(t, fmt.Sprintf("Rest(% x, %d)", c.b, c.m), n, err, c.want)
	}
}

func TestRestsAgreeWithBigNumbers(t *testing.T) {
	from := samples.New(134)
	for size := range 65 {
		for m := 1; m <= 16; m++ {
			for _, b := range [][]byte{
				from.Bytes(size),
				from.Bytes(size),
				make([]byte, size),
				bytes.Repeat([]byte{0xff}, size),
				append(make([]byte, size/2), from.Bytes(size-size/2)...),
			} {
				n, err := Rest(b, m)
				result(t, fmt.Sprintf("Rest(% x, %d)", b, m), n, err, modulo(new(big.Int).SetBytes(b), m))
			}
		}
	}
}

func TestRestRefuses(t *testing.T) {
	for _, size := range []int{65, 66, 128, 256 + 3, 1 << 16, 1 << 20} {
		for m := 1; m <= 16; m++ {
			n, err := Rest(make([]byte, size), m)
			refusal(t, fmt.Sprintf("Rest(%d bytes, %d)", size, m), n, err, api.ErrLong)
		}
	}
	// The number of digits counts before the number of bytes.
	for _, size := range []int{0, 1, 64, 65, 1 << 16} {
		for _, m := range wrongLengths() {
			n, err := Rest(bytes.Repeat([]byte{1}, size), m)
			refusal(t, fmt.Sprintf("Rest(%d bytes, %d)", size, m), n, err, api.ErrArg)
		}
	}
}

// It is the bytes that count, not the room for more.
func TestSpareCapacityIsNotRead(t *testing.T) {
	from := samples.New(135)
	for size := range 65 {
		b := from.Bytes(size)
		roomy, _ := samples.Framed(b)
		for _, m := range []int{1, 9, 16} {
			if got, want := rest(t, roomy, m), rest(t, b, m); got != want {
				t.Errorf("Rest(% x, %d): %d with spare capacity, %d without", b, m, got, want)
			}
		}
	}
}

// P9.4: Add and Sub.

func TestSums(t *testing.T) {
	for _, c := range []struct{ a, b, m, sum, difference int }{
		{0, 0, 1, 0, 0},
		{3, 4, 1, 7, 9},
		{4, 3, 1, 7, 1},
		{9, 1, 1, 0, 8},
		{9, 9, 1, 8, 0},
		{0, 9, 1, 9, 1},
		{99, 2, 2, 1, 97},
		{1, 2, 2, 3, 99},
		{50, 50, 2, 0, 0},
		{0, 1, 3, 1, 999},
		{9999999999999999, 9999999999999999, 16, 9999999999999998, 0},
		{9999999999999999, 1, 16, 0, 9999999999999998},
		{0, 9999999999999999, 16, 9999999999999999, 1},
		{0, 1, 16, 1, 9999999999999999},
		{5000000000000000, 5000000000000000, 16, 0, 0},
	} {
		if n := add(t, c.a, c.b, c.m); n != c.sum {
			t.Errorf("Add(%d, %d, %d): %d; want %d", c.a, c.b, c.m, n, c.sum)
		}
		if n := sub(t, c.a, c.b, c.m); n != c.difference {
			t.Errorf("Sub(%d, %d, %d): %d; want %d", c.a, c.b, c.m, n, c.difference)
		}
	}
}

// sumsAgree asks that sums and differences are those of big numbers.
func sumsAgree(t *testing.T, a, b, m int) {
	t.Helper()
	left, right := big.NewInt(int64(a)), big.NewInt(int64(b))
	sum, difference := new(big.Int).Add(left, right), new(big.Int).Sub(left, right)
	n, err := Add(a, b, m)
	result(t, fmt.Sprintf("Add(%d, %d, %d)", a, b, m), n, err, modulo(sum, m))
	n, err = Sub(a, b, m)
	result(t, fmt.Sprintf("Sub(%d, %d, %d)", a, b, m), n, err, modulo(difference, m))
}

func TestSumsAgreeWithBigNumbers(t *testing.T) {
	from := samples.New(136)
	for m := 1; m <= 16; m++ {
		for _, a := range edges(m) {
			for _, b := range edges(m) {
				sumsAgree(t, a, b, m)
			}
		}
		for range 500 {
			sumsAgree(t, number(from, m), number(from, m), m)
		}
	}
	for a := range 100 {
		for b := range 100 {
			sumsAgree(t, a, b, 2)
		}
	}
}

// sumsRefuse asks that two numbers are neither added nor subtracted, in either order.
func sumsRefuse(t *testing.T, a, b, m int) {
	t.Helper()
	for _, pair := range [][2]int{{a, b}, {b, a}} {
		n, err := Add(pair[0], pair[1], m)
		refusal(t, fmt.Sprintf("Add(%d, %d, %d)", pair[0], pair[1], m), n, err, api.ErrArg)
		n, err = Sub(pair[0], pair[1], m)
		refusal(t, fmt.Sprintf("Sub(%d, %d, %d)", pair[0], pair[1], m), n, err, api.ErrArg)
	}
}

func TestSumsRefuse(t *testing.T) {
	for m := 1; m <= 16; m++ {
		for _, a := range outside(m) {
			for _, b := range append(edges(m), outside(m)...) {
				sumsRefuse(t, a, b, m)
			}
		}
	}
	for _, m := range wrongLengths() {
		for _, a := range []int{0, 1, -1, 9999999999999999, 10000000000000000, api.MinInt, api.MaxInt} {
			sumsRefuse(t, a, 0, m)
			sumsRefuse(t, a, a, m)
		}
	}
}

// P9.5: back and forth.

func TestDigitsAndValueAreInverse(t *testing.T) {
	from := samples.New(137)
	for m := 1; m <= 16; m++ {
		for range 500 {
			s := from.Digits(m)
			n, err := Value(s)
			if err != api.OK {
				t.Fatalf("Value(%q): %d", s, err)
			}
			writes(t, n, m, s)
			n = number(from, m)
			s, err = Digits(n, m)
			if err != api.OK {
				t.Fatalf("Digits(%d, %d): %d", n, m, err)
			}
			value(t, s, n)
		}
	}
	for n := range 10000 {
		s, _ := Digits(n, 4)
		value(t, s, n)
	}
}

func TestSubtractionReversesAddition(t *testing.T) {
	from := samples.New(138)
	back := func(a, b, m int) {
		t.Helper()
		if n := sub(t, add(t, a, b, m), b, m); n != a {
			t.Fatalf("%d and %d added, and %d subtracted, modulo 10^%d: %d", a, b, b, m, n)
		}
		if n := add(t, sub(t, a, b, m), b, m); n != a {
			t.Fatalf("%d subtracted from %d, and added, modulo 10^%d: %d", b, a, m, n)
		}
	}
	for m := 1; m <= 16; m++ {
		for _, a := range edges(m) {
			for _, b := range edges(m) {
				back(a, b, m)
			}
		}
		for range 500 {
			back(number(from, m), number(from, m), m)
		}
	}
}

// shifted returns n, multiplied by 256 modulo 10^m for each of so many bytes, by sums alone.
func shifted(t *testing.T, n, size, m int) int {
	t.Helper()
	for range 8 * size {
		n = add(t, n, n, m)
	}
	return n
}

func TestRestIsComputedIncrementally(t *testing.T) {
	from := samples.New(139)
	for size := range 65 {
		for range 5 {
			whole := from.Bytes(size)
			for cut := range size + 1 {
				m := 1 + from.Below(16)
				first, others := whole[:cut], whole[cut:]
				want := add(t, shifted(t, rest(t, first, m), len(others), m), rest(t, others, m), m)
				if n := rest(t, whole, m); n != want {
					t.Fatalf("Rest(% x, %d): %d; by parts of %d and %d bytes: %d", whole, m, n, cut, len(others), want)
				}
			}
		}
	}
}

// W2 and W6: arguments, and what is kept from call to call.

func TestRestLeavesItsArgument(t *testing.T) {
	from := samples.New(140)
	for _, size := range []int{0, 1, 8, 63, 64, 65} {
		part, whole := samples.Framed(from.Bytes(size))
		before := bytes.Clone(whole)
		for m := 0; m <= 17; m++ {
			Rest(part, m)
		}
		if !bytes.Equal(whole, before) {
			t.Errorf("Rest of %d bytes changed its argument: % x; it was % x", size, whole, before)
		}
	}
}

func TestResultsDependOnArgumentsAlone(t *testing.T) {
	for range 3 {
		Rest(make([]byte, 65), 2)
		Value("12a")
		Digits(1000, 3)
		Add(100, 0, 2)
		Sub(0, 100, 2)
		if Power(3) != 1000 || Power(17) != 0 || Width(3) != 2 || Width(16) != 7 {
			t.Errorf("Power: %d, %d; Width: %d, %d", Power(3), Power(17), Width(3), Width(16))
		}
		b := []byte{1, 0}
		if n := rest(t, b, 2); n != 56 {
			t.Errorf("Rest: %d", n)
		}
		b[0] = 2
		if n := rest(t, b, 2); n != 12 {
			t.Errorf("Rest, with another byte: %d", n)
		}
		value(t, "0123", 123)
		writes(t, 123, 4, "0123")
		if sum, difference := add(t, 99, 2, 2), sub(t, 1, 2, 2); sum != 1 || difference != 99 {
			t.Errorf("Add: %d; Sub: %d", sum, difference)
		}
	}
}
