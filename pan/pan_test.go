package pan

import (
	"fmt"
	"regexp"
	"strconv"
	"strings"
	"testing"
	"unsafe"

	"moneyer/api"
	"moneyer/samples"
)

// What is well-shaped and what is a token, written down a second time.
var (
	shapedForm = regexp.MustCompile(`\A[0-9]{16,19}\z`)
	tokenForm  = regexp.MustCompile(`\A([0-9]{16,19})\.([1-9]|[1-9][0-9]|1[0-9][0-9]|2[0-4][0-9]|25[0-5])\z`)
)

// lengths are those of well-shaped strings.
func lengths() []int {
	return []int{16, 17, 18, 19}
}

// wrongVersions are those that no token has.
func wrongVersions() []int {
	return []int{0, -1, -2, -255, -256, api.MinInt, api.MinInt + 1, 256, 257, 512, 1000, 256 + 7, 1<<16 + 7, 1<<32 + 7, api.MaxInt - 1, api.MaxInt}
}

// misshaped are strings that are neither well-shaped nor tokens.
func misshaped() []string {
	wrong := []string{
		"", "1", "12", "x", ".", "*", "\x00", " ",
		"411111******1111", // a masked form is none
		"4111 1111 1111 1111",
		"4111-1111-1111-1111",
		" 4111111111111111", "4111111111111111 ", "4111111111111111\n", "4111111111111111\x00",
		"+411111111111111", "-411111111111111", "+4111111111111111", "-4111111111111111",
		"411111111111111.", ".411111111111111", "41111111.11111111",
		"41111111111111e1", "0x41111111111111", "4_111_111_111_11", "4,111,111,111,11",
		"４１１１１１",           // 18 bytes, digits of another script
		"41111111111111é",  // 16 bytes
		"411111111111111é", // 16 signs
		"41111111\xff1111111",
	}
	for n := range 64 {
		if n < 16 || n > 19 {
			wrong = append(wrong, strings.Repeat("0", n), strings.Repeat("5", n))
		}
	}
	for _, n := range []int{256, 256 + 16, 999, 1000, 1 << 16, 1<<16 + 16, 1 << 20} {
		wrong = append(wrong, strings.Repeat("0", n))
	}
	for _, n := range lengths() {
		for at := range n {
			for _, c := range []byte{0, ' ', '*', '+', '-', ',', '/', ':', 'A', 'x', '0' | 0x80, 0xff} {
				s := []byte(strings.Repeat("4", n))
				s[at] = c
				wrong = append(wrong, string(s))
			}
		}
	}
	return wrong
}

// wrongTokens are strings that are nearly tokens.
func wrongTokens() []string {
	wrong := misshaped()
	for _, s := range []string{"4111119999991111", "0000000000000000", "4111111111111111111"} {
		wrong = append(wrong, "."+s, "1."+s, s+s+".1", " "+s+".1", "x"+s+".1", s+"x.1", s+",1", s+":1", s+"*1", s+" 1", s+"1.", s+".1"+s, s+"."+s)
		for _, version := range []string{
			"", "0", "00", "000", "01", "02", "001", "010", "0255", "00000001",
			"256", "257", "260", "300", "999", "1000", "2550", "2555",
			"-1", "+1", " 1", "1 ", "1\n", "1\x00", "1x", "x", "0x1", "1e1", "1_0", "*",
			".1", "1.", "1.1", "1.0", ".", "..",
			"18446744073709551617", "36893488147419103233", "9223372036854775807", "9223372036854775808", // 2^64 + 1, 2^65 + 1
			"\u0661", "\uff11", // ones of other scripts
			strings.Repeat("0", 998) + "1", strings.Repeat("0", 999) + "1", "1" + strings.Repeat("0", 998), "1" + strings.Repeat("0", 999), strings.Repeat("1", 1<<20),
		} {
			wrong = append(wrong, s+"."+version)
		}
	}
	for _, s := range misshaped() {
		wrong = append(wrong, s+".1", s+".255")
	}
	return wrong
}

func short(s string) string {
	if len(s) > 60 {
		return fmt.Sprintf("%q.. (%d bytes)", s[:60], len(s))
	}
	return fmt.Sprintf("%q", s)
}

func masks(t *testing.T, s, want string) {
	t.Helper()
	if m := Mask(s); m != want {
		t.Errorf("Mask(%s): %q; want %q", short(s), m, want)
	}
}

func makes(t *testing.T, s string, version int) string {
	t.Helper()
	made, err := Token(s, version)
	if err != api.OK {
		t.Errorf("Token(%q, %d): %d", s, version, err)
	}
	return made
}

func notMade(t *testing.T, s string, version int, want api.Errno) {
	t.Helper()
	if made, err := Token(s, version); made != "" || err != want {
		t.Errorf("Token(%s, %d): %q, %d; want %d", short(s), version, made, err, want)
	}
}

func splits(t *testing.T, s, wantShaped string, wantVersion int) {
	t.Helper()
	if shaped, version, err := Split(s); shaped != wantShaped || version != wantVersion || err != api.OK {
		t.Errorf("Split(%q): %q, %d, %d; want %q, %d", s, shaped, version, err, wantShaped, wantVersion)
	}
}

func notSplit(t *testing.T, s string) {
	t.Helper()
	if shaped, version, err := Split(s); shaped != "" || version != 0 || err != api.ErrToken {
		t.Errorf("Split(%s): %q, %d, %d", short(s), shaped, version, err)
	}
}

// P11.1: Is and Cut.

func TestCardNumbers(t *testing.T) {
	for s, want := range map[string]bool{
		"4111111111111111":     true,
		"4111111111111112":     false,
		"4111111111111110":     false,
		"1411111111111111":     false,
		"5555555555554444":     true,
		"6011111111111117":     true,
		"0000000000000000":     true,
		"9999999999999999":     false,
		"9999999999999995":     true,
		"0000000000000018":     true,
		"00000000000000018":    true,
		"000000000000000018":   true,
		"0000000000000000018":  true,
		"0000000000000000019":  false,
		"000000000000000":      false, // valid, but of 15 digits
		"378282246310005":      false,
		"79927398713":          false,
		"18":                   false,
		"0":                    false,
		"00000000000000000018": false, // valid, but of 20 digits
		"00000000000000000000": false,
		"4111111111111111.1":   false,
		"4111111111111111.255": false,
	} {
		if got := Is(s); got != want {
			t.Errorf("Is(%q): %v", s, got)
		}
	}
	for _, s := range wrongTokens() {
		if Is(s) {
			t.Errorf("Is(%s)", short(s))
		}
	}
}

func TestOneCheckDigitOfTen(t *testing.T) {
	from := samples.New(161)
	for _, n := range lengths() {
		for range 200 {
			ahead := from.Digits(n - 1)
			for last := range 10 {
				s := ahead + strconv.Itoa(last)
				if got, want := Is(s), samples.LuhnSum(s)%10 == 0; got != want {
					t.Errorf("Is(%q): %v", s, got)
				}
			}
		}
	}
}

func TestCut(t *testing.T) {
	for _, c := range []struct{ s, bin, middle, last string }{
		{"4111119999991111", "411111", "999999", "1111"},
		{"4111111111111111", "411111", "111111", "1111"},
		{"4111111111111112", "411111", "111111", "1112"}, // it need not be valid
		{"1234567890123456", "123456", "789012", "3456"},
		{"12345678901234567", "123456", "7890123", "4567"},
		{"123456789012345678", "123456", "78901234", "5678"},
		{"1234567890123456789", "123456", "789012345", "6789"},
		{"0000000000000000", "000000", "000000", "0000"},
		{"0000000000000000000", "000000", "000000000", "0000"},
		{"9999999999999999999", "999999", "999999999", "9999"},
	} {
		if bin, middle, last, err := Cut(c.s); bin != c.bin || middle != c.middle || last != c.last || err != api.OK {
			t.Errorf("Cut(%q): %q, %q, %q, %d", c.s, bin, middle, last, err)
		}
	}
}

func TestCutDividesTheWhole(t *testing.T) {
	from := samples.New(162)
	for _, n := range lengths() {
		for range 100 {
			s := from.Digits(n)
			bin, middle, last, err := Cut(s)
			if len(bin) != 6 || len(middle) != n-10 || len(last) != 4 || bin+middle+last != s || err != api.OK {
				t.Errorf("Cut(%q): %q, %q, %q, %d", s, bin, middle, last, err)
			}
		}
	}
}

func TestNoCut(t *testing.T) {
	for _, s := range append(wrongTokens(), "4111119999991111.1", "4111111111111111.255") {
		if bin, middle, last, err := Cut(s); bin != "" || middle != "" || last != "" || err != api.ErrPan {
			t.Errorf("Cut(%s): %q, %q, %q, %d", short(s), bin, middle, last, err)
		}
	}
}

// P11.2: Mask.

func TestMasksOfShaped(t *testing.T) {
	for s, want := range map[string]string{
		"4111119999991111":    "411111******1111",
		"4111111111111111":    "411111******1111",
		"4111111111111112":    "411111******1112",
		"1234567890123456":    "123456******3456",
		"12345678901234567":   "123456*******4567",
		"123456789012345678":  "123456********5678",
		"1234567890123456789": "123456*********6789",
		"0000000000000000":    "000000******0000",
		"9999999999999999999": "999999*********9999",
	} {
		masks(t, s, want)
		for version := 1; version <= 255; version++ {
			masks(t, fmt.Sprintf("%s.%d", s, version), fmt.Sprintf("%s.%d", want, version))
		}
	}
}

func TestMasksOfOthers(t *testing.T) {
	for s, want := range map[string]string{
		"":                        "",
		"x":                       "*",
		"12":                      "**",
		"é":                       "**",
		"411111999999111":         "***************",
		"41111199999911111111":    "********************",
		"4111119999991111.02":     "*******************",
		"4111119999991111.0":      "******************",
		"4111119999991111.":       "*****************",
		"4111119999991111.256":    "********************",
		"4111119999991111.1.1":    "********************",
		"411111******1111":        "****************",
		"411111******1111.2":      "******************",
		"4111119999991111\n":      "*****************",
		"111119999991111.1":       "*****************",
		strings.Repeat("4", 20):   strings.Repeat("*", 20),
		strings.Repeat("4", 31):   strings.Repeat("*", 31),
		strings.Repeat("4", 32):   strings.Repeat("*", 32),
		strings.Repeat("4", 33):   strings.Repeat("*", 32),
		strings.Repeat("é", 16):   strings.Repeat("*", 32),
		strings.Repeat("é", 17):   strings.Repeat("*", 32),
		strings.Repeat("x", 64):   strings.Repeat("*", 32),
		strings.Repeat("\xff", 7): "*******",
	} {
		masks(t, s, want)
	}
	for _, s := range wrongTokens() {
		masks(t, s, strings.Repeat("*", min(len(s), 32)))
	}
}

// P11.3: Token and Split.

func TestTokens(t *testing.T) {
	for _, c := range []struct {
		s       string
		version int
		want    string
	}{
		{"4111119999991111", 2, "4111119999991111.2"},
		{"4111119999991112", 1, "4111119999991112.1"}, // it need not be valid
		{"0000000000000000", 9, "0000000000000000.9"},
		{"12345678901234567", 10, "12345678901234567.10"},
		{"123456789012345678", 99, "123456789012345678.99"},
		{"123456789012345678", 100, "123456789012345678.100"},
		{"1234567890123456789", 254, "1234567890123456789.254"},
		{"9999999999999999999", 255, "9999999999999999999.255"},
	} {
		if made := makes(t, c.s, c.version); made != c.want {
			t.Errorf("Token(%q, %d): %q; want %q", c.s, c.version, made, c.want)
		}
		splits(t, c.want, c.s, c.version)
	}
}

func TestNoTokens(t *testing.T) {
	for _, s := range []string{"4111119999991111", "4111119999991112", "12345678901234567", "123456789012345678", "1234567890123456789"} {
		for _, version := range wrongVersions() {
			notMade(t, s, version, api.ErrArg)
		}
	}
	for _, s := range append(wrongTokens(), "4111119999991111.2") {
		notMade(t, s, 1, api.ErrPan)
		notMade(t, s, 255, api.ErrPan)
		// The string counts ahead of the version.
		notMade(t, s, 0, api.ErrPan)
		notMade(t, s, 256, api.ErrPan)
		notMade(t, s, api.MinInt, api.ErrPan)
	}
}

func TestNoSplit(t *testing.T) {
	for _, s := range append(wrongTokens(), "4111111111111111", "12345678901234567", "123456789012345678", "1234567890123456789") {
		notSplit(t, s)
	}
}

func TestVersionsInText(t *testing.T) {
	for n := range 3000 {
		s := fmt.Sprintf("4111119999991111.%d", n)
		if n >= 1 && n <= 255 {
			splits(t, s, "4111119999991111", n)
		} else {
			notSplit(t, s)
		}
	}
	for width := 2; width <= 20; width++ {
		for _, n := range []int{0, 1, 9, 10, 99, 100, 255, 256} {
			if text := fmt.Sprintf("%0*d", width, n); text[0] == '0' {
				notSplit(t, "4111119999991111."+text)
			}
		}
	}
}

func TestEveryByteOfATokenCounts(t *testing.T) {
	for _, s := range []string{"4111119999991111.2", "4111111111111111111.25", "41111199999911111.255"} {
		for at := range len(s) {
			for c := range 256 {
				changed := s[:at] + string([]byte{byte(c)}) + s[at+1:]
				m := tokenForm.FindStringSubmatch(changed)
				if m == nil {
					notSplit(t, changed)
					continue
				}
				version, _ := strconv.Atoi(m[2])
				splits(t, changed, m[1], version)
			}
		}
	}
}

// slowMask follows the document's words.
func slowMask(s string) string {
	if shapedForm.MatchString(s) {
		return s[:6] + strings.Repeat("*", len(s)-10) + s[len(s)-4:]
	}
	if m := tokenForm.FindStringSubmatch(s); m != nil {
		return slowMask(m[1]) + "." + m[2]
	}
	return strings.Repeat("*", min(len(s), 32))
}

// Strings that are near to being something.
func TestNearStrings(t *testing.T) {
	from := samples.New(163)
	tokens := 0
	for range 50000 {
		s := from.Digits(15+from.Below(6)) + "." + from.Digits(from.Below(5))
		switch from.Below(4) {
		case 0:
			s = strings.ReplaceAll(s, ".", "")
		case 1:
			at := from.Below(len(s))
			s = s[:at] + string(".0 x"[from.Below(4)]) + s[at+from.Below(2):]
		}
		masks(t, s, slowMask(s))
		if want := shapedForm.MatchString(s) && samples.LuhnSum(s)%10 == 0; Is(s) != want {
			t.Errorf("Is(%q): %v", s, !want)
		}
		if m := tokenForm.FindStringSubmatch(s); m == nil {
			notSplit(t, s)
		} else {
			version, _ := strconv.Atoi(m[2])
			splits(t, s, m[1], version)
			tokens++
		}
	}
	if tokens < 1000 {
		t.Errorf("only %d tokens were tried", tokens)
	}
}

// P11.4: memory.

// shares tells whether two strings have bytes in common.
func shares(a, b string) bool {
	if a == "" || b == "" {
		return false
	}
	first, second := uintptr(unsafe.Pointer(unsafe.StringData(a))), uintptr(unsafe.Pointer(unsafe.StringData(b)))
	return first < second+uintptr(len(b)) && second < first+uintptr(len(a))
}

// results are the strings that the functions make of one.
func results(s string) []string {
	bin, middle, last, _ := Cut(s)
	made, _ := Token(s, 7)
	shaped, _, _ := Split(s)
	return []string{bin, middle, last, made, shaped, Mask(s)}
}

func TestResultsAreNewMemory(t *testing.T) {
	from := samples.New(164)
	others := []string{"12", "x23456789", strings.Repeat("*", 32), strings.Repeat("*", 64)}
	for _, n := range lengths() {
		s := from.Digits(n)
		others = append(others, s, s+".1", s+".255", s+".256")
	}
	for _, s := range others {
		whole := results(s)
		whole = append(whole, s)
		for i, a := range whole {
			for j, b := range whole {
				if i != j && shares(a, b) {
					t.Errorf("%q: the results %q and %q share memory", s, a, b)
				}
			}
		}
		for i, a := range results(s) {
			if a != whole[i] {
				t.Errorf("%q: %q became %q", s, whole[i], a)
			}
			if len(a) > 1 && shares(a, whole[i]) { // all strings of one byte are the language's own
				t.Errorf("%q: two calls share the memory of %q", s, a)
			}
		}
	}
}

// P11.5: theorems.

func TestTokenAndSplitAreInverse(t *testing.T) {
	from := samples.New(165)
	for _, n := range lengths() {
		for version := 1; version <= 255; version++ {
			s := from.Digits(n)
			made := makes(t, s, version)
			splits(t, made, s, version)
			shaped, back, _ := Split(made)
			if again := makes(t, shaped, back); again != made {
				t.Errorf("%q comes back as %q", made, again)
			}
		}
	}
}

func TestMasksHideTheMiddle(t *testing.T) {
	from := samples.New(166)
	for _, n := range lengths() {
		for range 100 {
			s := from.Digits(n)
			bin, _, last, _ := Cut(s)
			for _, version := range []string{"", ".1", ".10", ".255"} {
				want := Mask(s + version)
				if stars := strings.Count(want, "*"); stars != n-10 || len(want) != n+len(version) {
					t.Errorf("Mask(%q): %q", s+version, want)
				}
				for range 10 {
					masks(t, bin+from.Digits(n-10)+last+version, want)
				}
				for d := range 10 {
					masks(t, bin+strings.Repeat(strconv.Itoa(d), n-10)+last+version, want)
				}
			}
		}
	}
}

// Of any other string, nothing but the length can be told.
func TestMasksOfOthersTellTheLengthAlone(t *testing.T) {
	for _, s := range wrongTokens() {
		if m := Mask(s); strings.Trim(m, "*") != "" {
			t.Errorf("Mask(%s): %q", short(s), m)
		}
	}
}
