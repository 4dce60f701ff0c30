package digits

import (
	"bytes"
	"fmt"
	"math/big"
	"strings"
	"testing"

	"moneyer/api"
	"moneyer/samples"
)

// badStrings are no digit strings; each comes with what is wrong with it.
func badStrings() map[string]api.Errno {
	bad := map[string]api.Errno{
		"a":                             api.ErrForm,
		"12a":                           api.ErrForm,
		"a12":                           api.ErrForm,
		"1a2":                           api.ErrForm,
		" 1":                            api.ErrForm,
		"+1":                            api.ErrForm,
		"-1":                            api.ErrForm,
		"1.0":                           api.ErrForm,
		"/":                             api.ErrForm, // the byte before '0'
		":":                             api.ErrForm, // the byte after '9'
		"1\x00":                         api.ErrForm,
		"\xff1":                         api.ErrForm,
		"\u0663":                        api.ErrForm, // a digit, but not in ASCII
		"\uff11":                        api.ErrForm,
		strings.Repeat("1", 1000):       api.ErrLong,
		strings.Repeat("0", 1000):       api.ErrLong,
		strings.Repeat("9", 5000):       api.ErrLong,
		strings.Repeat("1", 998) + "x":  api.ErrForm,
		strings.Repeat("1", 999) + "x":  api.ErrForm, // too long as well
		strings.Repeat("1", 5000) + "x": api.ErrForm,
		"x" + strings.Repeat("1", 5000): api.ErrForm,
	}
	for c := range 256 {
		if c < '0' || c > '9' {
			bad["4"+string([]byte{byte(c)})+"2"] = api.ErrForm
		}
	}
	return bad
}

func short(s string) string {
	if len(s) > 40 {
		return fmt.Sprintf("%q.. (%d bytes)", s[:40], len(s))
	}
	return fmt.Sprintf("%q", s)
}

// P1.1: Pack.

func TestPackPutsTwoDigitsInAByte(t *testing.T) {
	for s, want := range map[string]string{
		"":                                   "",
		"0":                                  "\x00",
		"7":                                  "\x07",
		"00":                                 "\x00",
		"12":                                 "\x12",
		"90":                                 "\x90",
		"123":                                "\x01\x23",
		"012":                                "\x00\x12",
		"0000":                               "\x00\x00",
		"1234567890":                         "\x12\x34\x56\x78\x90",
		"987654321":                          "\x09\x87\x65\x43\x21",
		strings.Repeat("9", api.MaxDigits):   "\x09" + strings.Repeat("\x99", 499),
		strings.Repeat("9", api.MaxDigits-1): strings.Repeat("\x99", 499),
	} {
		if b, err := Pack(s); string(b) != want || err != api.OK {
			t.Errorf("Pack(%s): % x, %d", short(s), b, err)
		}
	}
}

func TestPackRefuses(t *testing.T) {
	for s, want := range badStrings() {
		if b, err := Pack(s); len(b) != 0 || err != want {
			t.Errorf("Pack(%s): % x, %d; want %d", short(s), b, err, want)
		}
	}
}

// P1.1: Unpack.

func TestUnpackTakesTheDigitsAtTheBeginning(t *testing.T) {
	for _, c := range []struct {
		b    string
		n    int
		want string
		size int
	}{
		{"", 0, "", 0},
		{"\xff\xff", 0, "", 0},
		{"\x07", 1, "7", 1},
		{"\x00", 1, "0", 1},
		{"\x12", 2, "12", 1},
		{"\x00", 2, "00", 1},
		{"\x01\x23\x09", 3, "123", 2},
		{"\x01\x23\xff", 3, "123", 2},
		{"\x12\x34\xab", 4, "1234", 2},
		{"\x09" + strings.Repeat("\x99", 499), api.MaxDigits, strings.Repeat("9", api.MaxDigits), 500},
		{strings.Repeat("\x98", 600), api.MaxDigits - 1, strings.Repeat("98", 499), 499},
	} {
		if s, size, err := Unpack([]byte(c.b), c.n); s != c.want || size != c.size || err != api.OK {
			t.Errorf("Unpack(%s, %d): %q, %d, %d", short(c.b), c.n, s, size, err)
		}
	}
	if s, size, err := Unpack(nil, 0); s != "" || size != 0 || err != api.OK {
		t.Errorf("Unpack(nil, 0): %q, %d, %d", s, size, err)
	}
}

func TestUnpackRefuses(t *testing.T) {
	long := strings.Repeat("\x11", 1000)
	for _, c := range []struct {
		b    string
		n    int
		want api.Errno
	}{
		{"", -1, api.ErrArg},
		{long, -1, api.ErrArg},
		{"\xff", api.MinInt, api.ErrArg},
		{long, api.MaxDigits + 1, api.ErrLong},
		{"\xff", api.MaxDigits + 1, api.ErrLong}, // too few bytes, and wrong ones
		{"", api.MaxInt, api.ErrLong},
		{"", 1, api.ErrEnd},
		{"", 2, api.ErrEnd},
		{"\x01", 3, api.ErrEnd},
		{"\xff", 3, api.ErrEnd}, // a wrong byte as well
		{"\x12\x34", 5, api.ErrEnd},
		{"\x01" + strings.Repeat("\x11", 498), api.MaxDigits, api.ErrEnd},
		{"\x11\x23", 3, api.ErrForm}, // the half before an odd number of digits
		{"\x91\x23", 3, api.ErrForm},
		{"\xf1\x23", 3, api.ErrForm},
		{"\x10", 1, api.ErrForm},
		{"\x0a", 1, api.ErrForm},
		{"\x0a\x23", 3, api.ErrForm},
		{"\x01\xa3", 3, api.ErrForm},
		{"\x01\x2a", 3, api.ErrForm},
		{"\xa0", 2, api.ErrForm},
		{"\x0f", 2, api.ErrForm},
		{"\x12\x3b\x45", 6, api.ErrForm},
		{"\x11" + strings.Repeat("\x11", 499), api.MaxDigits, api.ErrForm},
		{"\x01" + strings.Repeat("\x11", 498) + "\x1a", api.MaxDigits, api.ErrForm},
	} {
		if s, size, err := Unpack([]byte(c.b), c.n); s != "" || size != 0 || err != c.want {
			t.Errorf("Unpack(%s, %d): %q, %d, %d; want %d", short(c.b), c.n, s, size, err, c.want)
		}
	}
}

func TestUnpackEveryByte(t *testing.T) {
	for c := range 256 {
		high, low := c/16, c%16
		wantTwo, wantOne := api.OK, api.OK
		if high > 9 || low > 9 {
			wantTwo = api.ErrForm
		}
		if high != 0 || low > 9 {
			wantOne = api.ErrForm
		}
		if s, _, err := Unpack([]byte{byte(c)}, 2); err != wantTwo || err == api.OK && s != fmt.Sprintf("%02x", c) {
			t.Errorf("Unpack(%02x, 2): %q, %d", c, s, err)
		}
		if s, _, err := Unpack([]byte{byte(c)}, 1); err != wantOne || err == api.OK && s != fmt.Sprintf("%x", c) {
			t.Errorf("Unpack(%02x, 1): %q, %d", c, s, err)
		}
	}
}

// P1.2: Luhn and Valid.

func TestLuhnOfKnownNumbers(t *testing.T) {
	for s, want := range map[string]int{
		"":                   0,
		"0":                  0,
		"1":                  8,
		"4":                  2,
		"5":                  9,
		"9":                  1,
		"00":                 0,
		"7992739871":         3,
		"411111111111111":    1,
		"555555555555444":    4,
		"601111111111111":    7,
		"37828224631000":     5,
		"123456781234567":    0,
		"000000411111111111": 9,
	} {
		if d, err := Luhn(s); d != want || err != api.OK {
			t.Errorf("Luhn(%q): %d, %d; want %d", s, d, err, want)
		}
	}
}

func TestLuhnMakesValidStrings(t *testing.T) {
	from := samples.New(12)
	for n := range api.MaxDigits + 1 {
		s := from.Digits(n)
		d, err := Luhn(s)
		if err != api.OK || d < 0 || d > 9 {
			t.Fatalf("Luhn(%s): %d, %d", short(s), d, err)
		}
		for last := range 10 {
			whole := s + string(rune('0'+last))
			if (samples.LuhnSum(whole)%10 == 0) != (last == d) {
				t.Fatalf("Luhn(%s): %d, but the sum of %s is %d", short(s), d, short(whole), samples.LuhnSum(whole))
			}
			// One digit more than MaxDigits is no digit string.
			if got := Valid(whole); got != (last == d && n < api.MaxDigits) {
				t.Fatalf("Valid(%s): %v", short(whole), got)
			}
		}
	}
}

func TestLuhnRefuses(t *testing.T) {
	for s, want := range badStrings() {
		if d, err := Luhn(s); d != 0 || err != want {
			t.Errorf("Luhn(%s): %d, %d; want %d", short(s), d, err, want)
		}
	}
}

func TestValid(t *testing.T) {
	for s, want := range map[string]bool{
		"":                                       false,
		"0":                                      true,
		"1":                                      false,
		"9":                                      false,
		"18":                                     true,
		"81":                                     false,
		"59":                                     true,
		"67":                                     true, // 6 doubled is 12, and its weight 3
		"79927398713":                            true,
		"79927398710":                            false,
		"4111111111111111":                       true,
		"4111111111111112":                       false,
		"5555555555554444":                       true,
		"4111111111111111 ":                      false,
		" 4111111111111111":                      false,
		"411111111111111a":                       false,
		":":                                      false,
		"/":                                      false,
		strings.Repeat("0", api.MaxDigits):       true,
		strings.Repeat("0", api.MaxDigits+1):     false,
		strings.Repeat("0", api.MaxDigits) + "x": false,
	} {
		if got := Valid(s); got != want {
			t.Errorf("Valid(%s): %v", short(s), got)
		}
	}
	for s := range badStrings() {
		if Valid(s) {
			t.Errorf("Valid(%s)", short(s))
		}
	}
}

// P1.3: Number and Text.

func TestNumber(t *testing.T) {
	for s, want := range map[string]int{
		"0":                                0,
		"00":                               0,
		"7":                                7,
		"007":                              7,
		"10":                               10,
		"1234567890":                       1234567890,
		"999999999999999999":               999999999999999999,
		"1000000000000000000":              1000000000000000000,
		"9223372036854775799":              api.MaxInt - 8,
		"9223372036854775806":              api.MaxInt - 1,
		"9223372036854775807":              api.MaxInt,
		strings.Repeat("0", api.MaxDigits): 0,
		strings.Repeat("0", api.MaxDigits-1) + "7":                    7,
		strings.Repeat("0", api.MaxDigits-19) + "9223372036854775807": api.MaxInt,
	} {
		if n, err := Number(s); n != want || err != api.OK {
			t.Errorf("Number(%s): %d, %d", short(s), n, err)
		}
	}
}

func TestNumberRefuses(t *testing.T) {
	for s, want := range badStrings() {
		if n, err := Number(s); n != 0 || err != want {
			t.Errorf("Number(%s): %d, %d; want %d", short(s), n, err, want)
		}
	}
	for s, want := range map[string]api.Errno{
		"":                                 api.ErrEnd,
		"9223372036854775808":              api.ErrNum,
		"9223372036854775810":              api.ErrNum,
		"9300000000000000000":              api.ErrNum,
		"9999999999999999999":              api.ErrNum,
		"10000000000000000000":             api.ErrNum,
		"18446744073709551616":             api.ErrNum, // 2^64, which wraps round to 0
		"18446744073709551617":             api.ErrNum,
		"36893488147419103239":             api.ErrNum, // 2^65 + 7
		"0009223372036854775808":           api.ErrNum,
		strings.Repeat("9", api.MaxDigits): api.ErrNum,
		strings.Repeat("0", api.MaxDigits-19) + "9223372036854775808": api.ErrNum,
		"9223372036854775808x":               api.ErrForm, // too great as well
		strings.Repeat("9", api.MaxDigits+1): api.ErrLong,
	} {
		if n, err := Number(s); n != 0 || err != want {
			t.Errorf("Number(%s): %d, %d; want %d", short(s), n, err, want)
		}
	}
}

func TestNumberAgreesWithBigNumbers(t *testing.T) {
	from := samples.New(13)
	most := big.NewInt(api.MaxInt)
	for round := range 20000 {
		s := from.Digits(1 + round%22)
		want, _ := new(big.Int).SetString(s, 10)
		n, err := Number(s)
		if want.Cmp(most) > 0 {
			if n != 0 || err != api.ErrNum {
				t.Fatalf("Number(%q): %d, %d", s, n, err)
			}
		} else if err != api.OK || big.NewInt(int64(n)).Cmp(want) != 0 {
			t.Fatalf("Number(%q): %d, %d", s, n, err)
		}
	}
}

func TestText(t *testing.T) {
	for _, c := range []struct {
		n, width int
		want     string
	}{
		{0, 1, "0"},
		{0, 3, "000"},
		{0, 19, "0000000000000000000"},
		{7, 1, "7"},
		{7, 3, "007"},
		{10, 2, "10"},
		{999, 3, "999"},
		{1000, 4, "1000"},
		{60, 12, "000000000060"},
		{999999999999999999, 18, "999999999999999999"},
		{1000000000000000000, 19, "1000000000000000000"},
		{api.MaxInt, 19, "9223372036854775807"},
	} {
		if s, err := Text(c.n, c.width); s != c.want || err != api.OK {
			t.Errorf("Text(%d, %d): %q, %d", c.n, c.width, s, err)
		}
	}
}

func TestTextRefuses(t *testing.T) {
	for _, c := range []struct {
		n, width int
		want     api.Errno
	}{
		{-1, 3, api.ErrArg},
		{-1, 19, api.ErrArg},
		{api.MinInt, 19, api.ErrArg},
		{0, 0, api.ErrArg},
		{0, -1, api.ErrArg},
		{0, 20, api.ErrArg},
		{7, api.MinInt, api.ErrArg},
		{7, api.MaxInt, api.ErrArg},
		{api.MaxInt, 20, api.ErrArg},
		{1000, 0, api.ErrArg}, // more digits than that width as well
		{-1, 0, api.ErrArg},
		{10, 1, api.ErrNum},
		{1000, 3, api.ErrNum},
		{1000000000000000000, 18, api.ErrNum},
		{api.MaxInt, 1, api.ErrNum},
		{api.MaxInt, 18, api.ErrNum},
	} {
		if s, err := Text(c.n, c.width); s != "" || err != c.want {
			t.Errorf("Text(%d, %d): %q, %d; want %d", c.n, c.width, s, err, c.want)
		}
	}
}

func TestTextAtEveryPowerOfTen(t *testing.T) {
	power := 1
	for count := 1; count <= 18; count++ {
		power *= 10
		for width := 1; width <= 19; width++ {
			for n, has := range map[int]int{power - 1: count, power: count + 1} {
				s, err := Text(n, width)
				if width < has && (s != "" || err != api.ErrNum) {
					t.Errorf("Text(%d, %d): %q, %d", n, width, s, err)
				}
				if width >= has && (s != fmt.Sprintf("%0*d", width, n) || err != api.OK) {
					t.Errorf("Text(%d, %d): %q, %d", n, width, s, err)
				}
			}
		}
	}
}

// P1.4: arguments and results.

func TestUnpackLeavesItsArgument(t *testing.T) {
	whole := []byte{0x01, 0x23, 0x45, 0x67, 0x89, 0xab}
	before := bytes.Clone(whole)
	s, _, _ := Unpack(whole[:4], 7)
	Unpack(whole[:6], 12)
	Unpack(whole[:2], 9)
	if !bytes.Equal(whole, before) {
		t.Errorf("Unpack changed its argument: % x", whole)
	}
	clear(whole)
	if s != "1234567" {
		t.Errorf("Unpack kept its argument: %q", s)
	}
	if again, _, _ := Unpack(before, 7); again != "1234567" {
		t.Errorf("Unpack after that: %q", again)
	}
}

func TestPackReturnsNewMemory(t *testing.T) {
	first, _ := Pack("123456")
	second, _ := Pack("123456")
	spare := bytes.Clone(second[:cap(second)])
	first = first[:cap(first)]
	for i := range first {
		first[i] = 0xee
	}
	if !bytes.Equal(second[:cap(second)], spare) {
		t.Errorf("two results share memory: % x", second)
	}
	if third, _ := Pack("123456"); string(third) != "\x12\x34\x56" {
		t.Errorf("Pack hands out what it keeps: % x", third)
	}
}

func TestResultsDependOnArgumentsAlone(t *testing.T) {
	for range 3 {
		Pack("12a")
		Unpack([]byte{0xff}, 2)
		Number("9223372036854775808")
		Text(1000, 3)
		b, _ := Pack("4111")
		s, size, _ := Unpack(b, 4)
		d, _ := Luhn("7992739871")
		n, _ := Number("4111")
		text, _ := Text(4111, 5)
		if string(b) != "\x41\x11" || s != "4111" || size != 2 || d != 3 || n != 4111 || text != "04111" {
			t.Errorf("% x, %q, %d, %d, %d, %q", b, s, size, d, n, text)
		}
	}
}

// P1.5: there and back.

func TestUnpackingPackedDigitsReturnsThem(t *testing.T) {
	from := samples.New(15)
	rests := [][]byte{nil, {0}, {0xff}, {0x12, 0xab, 0}}
	for n := range api.MaxDigits + 1 {
		for _, s := range []string{from.Digits(n), strings.Repeat("0", n), strings.Repeat("9", n)} {
			b, err := Pack(s)
			if err != api.OK || len(b) != (n+1)/2 {
				t.Fatalf("Pack(%s): % x, %d", short(s), b, err)
			}
			for _, rest := range rests {
				if got, size, err := Unpack(append(bytes.Clone(b), rest...), n); got != s || size != len(b) || err != api.OK {
					t.Fatalf("Unpack of Pack(%s), then % x: %s, %d, %d", short(s), rest, short(got), size, err)
				}
			}
		}
	}
}

func TestUnpackedDigitsPackToTheSameBytes(t *testing.T) {
	from := samples.New(16)
	for range 20000 {
		b := make([]byte, from.Below(5))
		for i := range b {
			b[i] = byte(from.Below(11)<<4 | from.Below(11))
		}
		n := from.Below(10)
		s, size, err := Unpack(b, n)
		if err != api.OK {
			continue
		}
		if again, err := Pack(s); err != api.OK || !bytes.Equal(again, b[:size]) {
			t.Fatalf("Pack of Unpack(% x, %d): % x, %d", b, n, again, err)
		}
	}
}

func TestNumberOfTextIsTheNumber(t *testing.T) {
	from := samples.New(17)
	numbers := []int{0, 1, 9, 10, 4111, api.MaxAmount, api.MaxInt - 1, api.MaxInt}
	for range 2000 {
		numbers = append(numbers, from.Number())
	}
	for _, n := range numbers {
		for width := 1; width <= 19; width++ {
			s, err := Text(n, width)
			if err != api.OK {
				continue
			}
			if back, err := Number(s); len(s) != width || back != n || err != api.OK {
				t.Fatalf("Number(Text(%d, %d)): %q, %d, %d", n, width, s, back, err)
			}
		}
	}
}

// P1.6: faults that a check digit shows.

func validStrings() []string {
	from := samples.New(18)
	list := []string{"0", "18", "59", "67", "79927398713", "4111111111111111"}
	for _, n := range []int{1, 2, 3, 15, 16, 17, 18, 97, 98, api.MaxDigits - 2, api.MaxDigits - 1} {
		s := from.Digits(n)
		d, _ := Luhn(s)
		list = append(list, s+string(rune('0'+d)))
	}
	return list
}

func TestChangingOneDigitMakesInvalid(t *testing.T) {
	for _, s := range validStrings() {
		if !Valid(s) {
			t.Fatalf("Valid(%s): false", short(s))
		}
		for i := range len(s) {
			for c := byte('0'); c <= '9'; c++ {
				b := []byte(s)
				b[i] = c
				if Valid(string(b)) != (c == s[i]) {
					t.Fatalf("%s: with %c at %d, Valid is %v", short(s), c, i, c != s[i])
				}
			}
		}
	}
}

func TestExchangingAdjacentDigitsMakesInvalid(t *testing.T) {
	for _, s := range validStrings() {
		for i := range len(s) - 1 {
			b := []byte(s)
			b[i], b[i+1] = b[i+1], b[i]
			zeroAndNine := b[i] == '0' && b[i+1] == '9' || b[i] == '9' && b[i+1] == '0'
			if Valid(string(b)) != (b[i] == b[i+1] || zeroAndNine) {
				t.Fatalf("%s: %d and %d exchanged, Valid is %v", short(s), i, i+1, Valid(string(b)))
			}
		}
	}
}

func TestExchangingEveryPair(t *testing.T) {
	for _, rest := range []string{"", "4", "41"} {
		for pair := range 100 {
			a, b := string(rune('0'+pair/10)), string(rune('0'+pair%10))
			d, _ := Luhn(rest + a + b)
			check := string(rune('0' + d))
			same := a == b || a+b == "09" || a+b == "90"
			if !Valid(rest+a+b+check) || Valid(rest+b+a+check) != same {
				t.Errorf("%s%s%s and %s%s%s", rest, a+b, check, rest, b+a, check)
			}
		}
	}
}
