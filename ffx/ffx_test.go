package ffx

import (
	"bytes"
	"crypto/aes"
	"crypto/cipher"
	"fmt"
	"math/big"
	"strconv"
	"strings"
	"sync"
	"testing"

	"moneyer/api"
	"moneyer/samples"
)

// wrongCounts are no numbers of numerals.
func wrongCounts() []int {
	return []int{0, 1, 5, 33, 34, 64, 256 + 6, 1<<32 + 10, -1, -6, -10, api.MinInt, api.MinInt + 10, api.MaxInt}
}

// power is 10^m, for the digits of a half.
func power(m int) int {
	return int(new(big.Int).Exp(big.NewInt(10), big.NewInt(int64(m)), nil).Int64())
}

// known is a cipher under the key of the document's examples.
func known(t *testing.T, tweak string) *Cipher {
	t.Helper()
	return made(t, samples.Hex("2b7e151628aed2a6abf7158809cf4f3c"), []byte(tweak))
}

func made(t *testing.T, key, tweak []byte) *Cipher {
	t.Helper()
	c, err := New(key, tweak)
	if c == nil || err != api.OK {
		t.Fatalf("New(% x, % x): %v, %d", key, tweak, c, err)
	}
	return c
}

func encrypt(t *testing.T, c *Cipher, s string) string {
	t.Helper()
	x, err := c.Encrypt(s)
	if err != api.OK {
		t.Fatalf("Encrypt(%q): %q, %d", s, x, err)
	}
	return x
}

func decrypt(t *testing.T, c *Cipher, s string) string {
	t.Helper()
	p, err := c.Decrypt(s)
	if err != api.OK {
		t.Fatalf("Decrypt(%q): %q, %d", s, p, err)
	}
	return p
}

func mask(t *testing.T, c *Cipher, n, round, value int) int {
	t.Helper()
	m, err := c.Mask(n, round, value)
	if err != api.OK {
		t.Fatalf("Mask(%d, %d, %d): %d, %d", n, round, value, m, err)
	}
	return m
}

// refused asks both ways for an error.
func refused(t *testing.T, c *Cipher, s string, want api.Errno) {
	t.Helper()
	if x, err := c.Encrypt(s); x != "" || err != want {
		t.Errorf("Encrypt(%q): %q, %d; want %d", s, x, err, want)
	}
	if p, err := c.Decrypt(s); p != "" || err != want {
		t.Errorf("Decrypt(%q): %q, %d; want %d", s, p, err, want)
	}
}

// number yields a value of b in a round.
func number(from *samples.Source, n, round int) int {
	return from.Number() % power(slowSize(n, round+1))
}

// slowSize is how many digits a has in a round.
func slowSize(n, round int) int {
	if round%2 == 0 {
		return n / 2
	}
	return n - n/2
}

// slowMask follows the document's words, with the ciphers and the numbers of Go's own library.
func slowMask(t *testing.T, key, tweak []byte, n, round int, x *big.Int) *big.Int {
	t.Helper()
	u := n / 2
	v := n - u
	greatest := big.NewInt(int64(power(v) - 1))
	w := len(greatest.Bytes())
	input := []byte{1, 2, 1, 0, 0, 10, 10, byte(u), 0, 0, 0, byte(n), 0, 0, 0, byte(len(tweak))}
	input = append(input, tweak...)
	for (len(input)+1+w)%16 != 0 {
		input = append(input, 0)
	}
	input = append(input, byte(round))
	input = append(input, x.FillBytes(make([]byte, w))...)
	c, err := aes.NewCipher(key)
	if err != nil {
		t.Fatal(err)
	}
	cipher.NewCBCEncrypter(c, make([]byte, 16)).CryptBlocks(input, input)
	final := input[len(input)-16:]
	d := (w+3)/4*4 + 4
	modulus := big.NewInt(int64(power(slowSize(n, round))))
	return new(big.Int).Mod(new(big.Int).SetBytes(final[:d]), modulus)
}

// slowEncrypt follows the document's words.
func slowEncrypt(t *testing.T, key, tweak []byte, s string) string {
	t.Helper()
	a, b := s[:len(s)/2], s[len(s)/2:]
	for round := range 10 {
		size := slowSize(len(s), round)
		c, _ := new(big.Int).SetString(a, 10)
		value, _ := new(big.Int).SetString(b, 10)
		c.Add(c, slowMask(t, key, tweak, len(s), round, value))
		c.Mod(c, big.NewInt(int64(power(size))))
		a, b = b, fmt.Sprintf("%0*d", size, c)
	}
	return a + b
}

// P10.1: New.

func TestKeysAndTweaks(t *testing.T) {
	from := samples.New(141)
	for _, size := range []int{16, 32} {
		for length := range 17 {
			key, tweak := from.Bytes(size), from.Bytes(length)
			s := from.Digits(16)
			if x, want := encrypt(t, made(t, key, tweak), s), slowEncrypt(t, key, tweak, s); x != want {
				t.Errorf("a key of %d bytes, a tweak of %d: %q; want %q", size, length, x, want)
			}
		}
	}
}

func TestEmptyTweak(t *testing.T) {
	key := samples.New(142).CipherKey()
	x := encrypt(t, made(t, key, nil), "123456")
	if y := encrypt(t, made(t, key, []byte{}), "123456"); x != y {
		t.Errorf("a nil tweak: %q; an empty one: %q", x, y)
	}
}

func TestWrongKeys(t *testing.T) {
	for _, key := range samples.WrongKeys() {
		for _, size := range []int{0, 16, 17, 1 << 16} {
			if c, err := New(key, make([]byte, size)); c != nil || err != api.ErrArg {
				t.Errorf("a key of %d bytes, a tweak of %d: %v, %d", len(key), size, c, err)
			}
		}
	}
}

func TestLongTweaks(t *testing.T) {
	for _, size := range []int{16, 32} {
		for _, length := range []int{17, 18, 32, 256, 256 + 16, 1 << 16} {
			if c, err := New(make([]byte, size), make([]byte, length)); c != nil || err != api.ErrLong {
				t.Errorf("a key of %d bytes, a tweak of %d: %v, %d", size, length, c, err)
			}
		}
	}
}

// P10.2: Encrypt and Decrypt.

// The samples are those of NIST for FF1 with radix ten, under keys that aes takes.
func TestKnownEncryptions(t *testing.T) {
	short := "2b7e151628aed2a6abf7158809cf4f3c"
	long := short + "ef4359d8d580aa4f7f036d6f04fc6a94"
	for _, sample := range []struct{ key, tweak, want string }{
		{short, "", "2433477484"},
		{short, "9876543210", "6124200773"},
		{long, "", "6657667009"},
		{long, "9876543210", "1001623463"},
	} {
		c := made(t, samples.Hex(sample.key), []byte(sample.tweak))
		if x := encrypt(t, c, "0123456789"); x != sample.want {
			t.Errorf("key %s, tweak %q: %q; want %q", sample.key, sample.tweak, x, sample.want)
		}
		if p := decrypt(t, c, sample.want); p != "0123456789" {
			t.Errorf("key %s, tweak %q: back to %q", sample.key, sample.tweak, p)
		}
	}
}

func TestAllLengths(t *testing.T) {
	from := samples.New(143)
	for n := 6; n <= 32; n++ {
		for _, s := range []string{strings.Repeat("0", n), strings.Repeat("9", n), strings.Repeat("0", n-1) + "1", "1" + strings.Repeat("0", n-1), from.Digits(n), from.Digits(n)} {
			key, tweak := from.CipherKey(), from.Bytes(from.Below(17))
			want := slowEncrypt(t, key, tweak, s)
			c := made(t, key, tweak)
			if x := encrypt(t, c, s); x != want {
				t.Errorf("Encrypt(%q): %q; want %q", s, x, want)
			}
			if p := decrypt(t, c, want); p != s {
				t.Errorf("Decrypt(%q): %q; want %q", want, p, s)
			}
		}
	}
}

func TestWrongLengths(t *testing.T) {
	c := known(t, "")
	for _, n := range []int{0, 1, 2, 4, 5, 33, 34, 48, 64, 256, 256 + 10, 1 << 16} {
		refused(t, c, strings.Repeat("7", n), api.ErrArg)
		// The length counts ahead of the bytes.
		refused(t, c, strings.Repeat("x", n), api.ErrArg)
	}
	// The length is counted in bytes: these are five and 33.
	refused(t, c, "12é4", api.ErrArg)
	refused(t, c, strings.Repeat("é", 16)+"1", api.ErrArg)
}

func TestWrongBytes(t *testing.T) {
	c := known(t, "tweak")
	for n := 6; n <= 32; n++ {
		for at := range n {
			for _, wrong := range []byte{0, ' ', '+', '-', '.', '/', ':', 'A', 'x', '0' | 0x80, 0xff} {
				s := []byte(strings.Repeat("4", n))
				s[at] = wrong
				refused(t, c, string(s), api.ErrForm)
			}
		}
		refused(t, c, strings.Repeat("x", n), api.ErrForm)
	}
	// Digits of other scripts, three bytes each.
	refused(t, c, "１２３４", api.ErrForm)
}

// P10.3: Mask.

func TestMasks(t *testing.T) {
	from := samples.New(144)
	for n := 6; n <= 32; n++ {
		key, tweak := from.CipherKey(), from.Bytes(from.Below(17))
		c := made(t, key, tweak)
		for round := range 10 {
			most := power(slowSize(n, round+1)) - 1
			for _, x := range []int{0, 1, 255 % (most + 1), 256 % (most + 1), most / 2, most - 1, most, number(from, n, round)} {
				want := slowMask(t, key, tweak, n, round, big.NewInt(int64(x)))
				if m := mask(t, c, n, round, x); big.NewInt(int64(m)).Cmp(want) != 0 {
					t.Errorf("Mask(%d, %d, %d): %d; want %d", n, round, x, m, want)
				}
			}
		}
	}
}

// The lengths of tweaks at which the padding takes another block depend on the width of the value.
func TestPadding(t *testing.T) {
	from := samples.New(145)
	key := from.CipherKey()
	for _, n := range []int{6, 7, 10, 14, 18, 24, 31, 32} {
		for length := range 17 {
			tweak := from.Bytes(length)
			x := number(from, n, 4)
			want := slowMask(t, key, tweak, n, 4, big.NewInt(int64(x)))
			if m := mask(t, made(t, key, tweak), n, 4, x); big.NewInt(int64(m)).Cmp(want) != 0 {
				t.Errorf("Mask(%d, 4, %d) with a tweak of %d bytes: %d; want %d", n, x, length, m, want)
			}
		}
	}
}

// An encryption is made of the masks of its rounds.
func TestMasksEncrypt(t *testing.T) {
	from := samples.New(146)
	for range 50 {
		c := made(t, from.CipherKey(), from.Bytes(from.Below(17)))
		s := from.Digits(6 + from.Below(27))
		a, b := s[:len(s)/2], s[len(s)/2:]
		for round := range 10 {
			left, _ := strconv.Atoi(a)
			right, _ := strconv.Atoi(b)
			size := slowSize(len(s), round)
			a, b = b, fmt.Sprintf("%0*d", size, (left+mask(t, c, len(s), round, right))%power(size))
		}
		if x := encrypt(t, c, s); x != a+b {
			t.Errorf("Encrypt(%q): %q; want %q", s, x, a+b)
		}
	}
}

func TestWrongMasks(t *testing.T) {
	c := known(t, "")
	wrong := func(n, round, value int) {
		t.Helper()
		if m, err := c.Mask(n, round, value); m != 0 || err != api.ErrArg {
			t.Errorf("Mask(%d, %d, %d): %d, %d", n, round, value, m, err)
		}
	}
	for _, n := range wrongCounts() {
		for _, round := range []int{0, 5, 9, 10, -1} {
			wrong(n, round, 0)
			wrong(n, round, -1)
		}
	}
	for n := 6; n <= 32; n++ {
		for _, round := range []int{-1, -2, -10, 10, 11, 256, 256 + 3, 1<<32 + 1, api.MinInt, api.MinInt + 1, api.MaxInt} {
			wrong(n, round, 0)
			wrong(n, round, api.MaxInt)
		}
		for round := range 10 {
			beyond := power(slowSize(n, round+1))
			for _, value := range []int{-1, -2, -beyond, 1 - beyond, api.MinInt, api.MinInt + 1, beyond, beyond + 1, 10 * beyond, api.MaxInt - 1, api.MaxInt} {
				wrong(n, round, value)
			}
		}
	}
}

// The halves of an odd number of numerals differ, and so do the values that rounds take.
func TestOddMasks(t *testing.T) {
	c := known(t, "")
	for n := 7; n <= 31; n += 2 {
		greatest := power(n-n/2) - 1
		for round := range 10 {
			want := api.OK
			if round%2 == 1 {
				want = api.ErrArg
			}
			if m, err := c.Mask(n, round, greatest); err != want || err != api.OK && m != 0 {
				t.Errorf("Mask(%d, %d, %d): %d, %d", n, round, greatest, m, err)
			}
		}
	}
}

// P10.4: memory and goroutines.

func TestArgumentsAreLeftAlone(t *testing.T) {
	from := samples.New(147)
	for range 20 {
		key, wholeKey := samples.Framed(from.CipherKey())
		tweak, wholeTweak := samples.Framed(from.Bytes(from.Below(17)))
		keyBefore, tweakBefore := bytes.Clone(wholeKey), bytes.Clone(wholeTweak)
		c := made(t, key, tweak)
		s := from.Digits(6 + from.Below(27))
		x := encrypt(t, c, s)
		decrypt(t, c, x)
		mask(t, c, len(s), 3, 7)
		if !bytes.Equal(wholeKey, keyBefore) || !bytes.Equal(wholeTweak, tweakBefore) {
			t.Fatal("an argument was modified")
		}
		samples.Spoil(wholeKey)
		samples.Spoil(wholeTweak)
		if p := decrypt(t, c, x); p != s {
			t.Errorf("with its arguments spoilt, a cipher decrypts %q to %q; want %q", x, p, s)
		}
	}
}

func TestArgumentsMaySpoilBeforeUse(t *testing.T) {
	from := samples.New(148)
	key, tweak := from.CipherKey(), from.Bytes(16)
	want := slowEncrypt(t, key, tweak, "4111111111111111")
	c := made(t, key, tweak)
	samples.Spoil(key)
	samples.Spoil(tweak)
	if x := encrypt(t, c, "4111111111111111"); x != want {
		t.Errorf("%q; want %q", x, want)
	}
}

func TestResultsDependOnArgumentsAlone(t *testing.T) {
	from := samples.New(149)
	key := from.CipherKey()
	c, other := made(t, key, []byte("x")), made(t, key, []byte("y"))
	s := from.Digits(19)
	x, m := encrypt(t, c, s), mask(t, c, 19, 2, 5)
	encrypt(t, other, s)
	encrypt(t, c, "000000")
	decrypt(t, c, strings.Repeat("9", 32))
	mask(t, c, 7, 9, 1)
	c.Encrypt("1")
	c.Encrypt("x23456")
	c.Mask(1, 1, 1)
	if y, n := encrypt(t, c, s), mask(t, c, 19, 2, 5); y != x || n != m {
		t.Errorf("%q and %d became %q and %d", x, m, y, n)
	}
	again := made(t, key, []byte("x"))
	if y, n := encrypt(t, again, s), mask(t, again, 19, 2, 5); y != x || n != m {
		t.Errorf("another cipher of the same: %q and %d; want %q and %d", y, n, x, m)
	}
}

func TestGoroutines(t *testing.T) {
	from := samples.New(150)
	key, tweak := from.CipherKey(), from.Bytes(9)
	var numerals, wanted [16]string
	for i := range numerals {
		numerals[i] = from.Digits(6 + from.Below(27))
		wanted[i] = slowEncrypt(t, key, tweak, numerals[i])
	}
	c := made(t, key, tweak)
	var all sync.WaitGroup
	for i := range numerals {
		all.Go(func() {
			s, want := numerals[i], wanted[i]
			for range 20 {
				if x, err := c.Encrypt(s); x != want || err != api.OK {
					t.Errorf("Encrypt(%q): %q, %d; want %q", s, x, err, want)
				}
				if p, err := c.Decrypt(want); p != s || err != api.OK {
					t.Errorf("Decrypt(%q): %q, %d; want %q", want, p, err, s)
				}
				if m, err := c.Mask(6, 0, 999); m >= 1000 || err != api.OK {
					t.Errorf("Mask(6, 0, 999): %d, %d", m, err)
				}
			}
		})
	}
	all.Wait()
}

// P10.5: theorems.

func TestInverse(t *testing.T) {
	from := samples.New(151)
	for range 300 {
		c := made(t, from.CipherKey(), from.Bytes(from.Below(17)))
		s := from.Digits(6 + from.Below(27))
		x := encrypt(t, c, s)
		if len(x) != len(s) || strings.Trim(x, "0123456789") != "" {
			t.Errorf("Encrypt(%q): %q", s, x)
		}
		if p := decrypt(t, c, x); p != s {
			t.Errorf("%q comes back as %q", s, p)
		}
		p := decrypt(t, c, s)
		if len(p) != len(s) || strings.Trim(p, "0123456789") != "" {
			t.Errorf("Decrypt(%q): %q", s, p)
		}
		if x := encrypt(t, c, p); x != s {
			t.Errorf("%q goes forth again as %q", s, x)
		}
	}
}

func TestDifferentEncryptions(t *testing.T) {
	c := known(t, "different")
	for _, form := range []string{"%03d456", "123%03d", "%03d4567", "123%03d7", "41111%03d11111111"} {
		seen := map[string]string{}
		for i := range 1000 {
			s := fmt.Sprintf(form, i)
			x := encrypt(t, c, s)
			if other, ok := seen[x]; ok {
				t.Fatalf("%q and %q have the encryption %q", other, s, x)
			}
			seen[x] = s
		}
	}
}

// Keys, tweaks and lengths are told apart.
func TestEverythingCounts(t *testing.T) {
	from := samples.New(152)
	key := from.Bytes(32)
	s := strings.Repeat("5", 32)
	seen := map[string]bool{}
	for _, c := range []*Cipher{
		made(t, key, nil),
		made(t, key, []byte{0}),
		made(t, key, []byte{0, 0}),
		made(t, key, []byte{1, 0}),
		made(t, key, make([]byte, 16)),
		made(t, key[:16], nil),
		made(t, key[16:], nil),
	} {
		for n := 20; n <= 32; n++ {
			// The first ten encrypted digits are random enough to be held against each other.
			seen[encrypt(t, c, s[:n])[:10]] = true
		}
	}
	if len(seen) != 7*13 {
		t.Errorf("%d encryptions differ; want %d", len(seen), 7*13)
	}
}
