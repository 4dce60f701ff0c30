package stream

import (
	"bytes"
	"crypto/aes"
	"crypto/cipher"
	"encoding/binary"
	"encoding/hex"
	"sync"
	"testing"

	"moneyer/api"
	"moneyer/samples"
)

func xor(t *testing.T, key []byte, nonce, at int, p []byte) []byte {
	t.Helper()
	x, err := Xor(key, nonce, at, p)
	if len(x) != len(p) || err != api.OK {
		t.Fatalf("Xor(% x, %d, %d, %d bytes): %d bytes, %d", key, nonce, at, len(p), len(x), err)
	}
	return x
}

func pad(t *testing.T, key []byte, nonce, block int) []byte {
	t.Helper()
	b, err := Pad(key, nonce, block)
	if len(b) != 16 || err != api.OK {
		t.Fatalf("Pad(% x, %d, %d): % x, %d", key, nonce, block, b, err)
	}
	return b
}

// libraryPad is what Go's own package encrypts the block of two numbers to.
func libraryPad(t *testing.T, key []byte, nonce, block int) []byte {
	t.Helper()
	c, err := aes.NewCipher(key)
	if err != nil {
		t.Fatal(err)
	}
	b := binary.BigEndian.AppendUint64(nil, uint64(nonce))
	b = binary.BigEndian.AppendUint64(b, uint64(block))
	c.Encrypt(b, b)
	return b
}

// libraryXor is what Go's own counter mode makes of p.
func libraryXor(t *testing.T, key []byte, nonce, at int, p []byte) []byte {
	t.Helper()
	c, err := aes.NewCipher(key)
	if err != nil {
		t.Fatal(err)
	}
	first := binary.BigEndian.AppendUint64(nil, uint64(nonce))
	first = binary.BigEndian.AppendUint64(first, uint64(at/16))
	whole := append(make([]byte, at%16), p...)
	cipher.NewCTR(c, first).XORKeyStream(whole, whole)
	return whole[at%16:]
}

// slowXor follows the document's words: a byte is XORed with the byte of the keystream at its position.
func slowXor(t *testing.T, key []byte, nonce, at int, p []byte) []byte {
	t.Helper()
	var x []byte
	for i, c := range p {
		position := at + i
		x = append(x, c^libraryPad(t, key, nonce, position/16)[position%16])
	}
	return x
}

// P7.1: Pad.

// The blocks are those of RFC 3686 that contain two numbers of at least 0.
func TestKnownPads(t *testing.T) {
	for _, c := range []struct {
		key          string
		nonce, block int
		want         string
	}{
		{"00000000000000000000000000000000", 0, 0, "66e94bd4ef8a2c3b884cfa59ca342b2e"},
		{"ae6852f8121067cc4bf7a5765577f39e", 0x0000003000000000, 1, "b7603328dbc2931b410e16c8067e62df"},
		{"7691be035e5020a8ac6e618529f9a0dc", 0x00e0017b27777f3f, 0x4a1786f000000001, "c1ce4aab9b2afbdec74f58e2e3d67cd8"},
		{"7691be035e5020a8ac6e618529f9a0dc", 0x00e0017b27777f3f, 0x4a1786f000000002, "5551b638ca786e21cd8346f1b2ee0e4c"},
		{"7691be035e5020a8ac6e618529f9a0dc", 0x00e0017b27777f3f, 0x4a1786f000000003, "0593250c17553600a63dfecf562387e9"},
		{"f6d66d6bd52d59bb0796365879eff886c66dd51a5b6a99744b50590c87a23884", 0x00faac24c1585ef1, 0x5a43d87500000001, "f05f21183c91672b41e70a008c43bca6"},
		{"f6d66d6bd52d59bb0796365879eff886c66dd51a5b6a99744b50590c87a23884", 0x00faac24c1585ef1, 0x5a43d87500000002, "a82179439b968b7d4d2999068f59b103"},
	} {
		if b := pad(t, samples.Hex(c.key), c.nonce, c.block); hex.EncodeToString(b) != c.want {
			t.Errorf("Pad(%s, %x, %x): %x; want %s", c.key, c.nonce, c.block, b, c.want)
		}
	}
}

func isPad(t *testing.T, key []byte, nonce, block int) {
	t.Helper()
	want := libraryPad(t, key, nonce, block)
	if b := pad(t, key, nonce, block); !bytes.Equal(b, want) {
		t.Fatalf("Pad(% x, %d, %d): % x; want % x", key, nonce, block, b, want)
	}
}

func TestPadsAgreeWithTheLibrary(t *testing.T) {
	from := samples.New(81)
	for range 500 {
		isPad(t, from.CipherKey(), from.Number(), from.Number())
	}
}

// Each bit of both numbers counts, and stands in its own place.
func TestSingleBitsOfNumbers(t *testing.T) {
	from := samples.New(82)
	for _, size := range []int{16, 32} {
		key := from.Bytes(size)
		for bit := range 63 {
			isPad(t, key, 1<<bit, 0)
			isPad(t, key, 0, 1<<bit)
			isPad(t, key, 1<<bit, 1<<bit)
			isPad(t, key, 1<<bit-1, 1<<bit)
			isPad(t, key, 1<<bit, 1<<bit-1)
		}
	}
}

func TestPadsOfTheGreatestNumbers(t *testing.T) {
	key := make([]byte, 16)
	for _, n := range []int{api.MaxInt, api.MaxInt - 1} {
		isPad(t, key, n, 0)
		isPad(t, key, 0, n)
		isPad(t, key, n, n)
	}
}

func TestWrongPads(t *testing.T) {
	for _, size := range []int{16, 32} {
		key := make([]byte, size)
		for _, c := range []struct{ nonce, block int }{
			{-1, 0}, {0, -1}, {-1, -1}, {api.MinInt, 0}, {0, api.MinInt}, {api.MinInt, api.MinInt},
			{-1, api.MaxInt}, {api.MaxInt, -1}, {-api.MaxInt, 1},
		} {
			if b, err := Pad(key, c.nonce, c.block); b != nil || err != api.ErrArg {
				t.Errorf("Pad(%d, %d): % x, %d", c.nonce, c.block, b, err)
			}
		}
	}
	for _, key := range samples.WrongKeys() {
		if b, err := Pad(key, 0, 0); b != nil || err != api.ErrArg {
			t.Errorf("Pad under %d bytes: % x, %d", len(key), b, err)
		}
	}
}

// P7.2: Xor.

func TestKnownXor(t *testing.T) {
	// The first of RFC 3686, whose blocks are counted from 1.
	x := xor(t, samples.Hex("ae6852f8121067cc4bf7a5765577f39e"), 0x30<<32, 16, []byte("Single block msg"))
	if hex.EncodeToString(x) != "e4095d4fb7a7b3792d6175a3261311b8" {
		t.Errorf("Xor: %x", x)
	}
}

func TestXorAgreesWithTheDefinition(t *testing.T) {
	from := samples.New(84)
	for range 300 {
		key, nonce, at := from.CipherKey(), from.Number(), from.Below(200)
		p := from.Bytes(from.Below(100))
		if x := xor(t, key, nonce, at, p); !bytes.Equal(x, slowXor(t, key, nonce, at, p)) {
			t.Fatalf("Xor(% x, %d, %d, % x): % x", key, nonce, at, p, x)
		}
	}
}

// All lengths and all places in a block.
func TestXorAroundBlocks(t *testing.T) {
	from := samples.New(85)
	for at := range 34 {
		key, nonce := from.CipherKey(), from.Number()
		for n := range 51 {
			p := from.Bytes(n)
			if x := xor(t, key, nonce, at, p); !bytes.Equal(x, libraryXor(t, key, nonce, at, p)) {
				t.Fatalf("Xor(% x, %d, %d, % x): % x", key, nonce, at, p, x)
			}
		}
	}
}

func TestXorFarFromTheBeginning(t *testing.T) {
	from := samples.New(86)
	for range 300 {
		key, nonce, at := from.CipherKey(), from.Number(), from.Number()%(1<<40+1)
		p := from.Bytes(from.Below(80))
		if x := xor(t, key, nonce, at, p); !bytes.Equal(x, libraryXor(t, key, nonce, at, p)) {
			t.Fatalf("Xor(% x, %d, %d, % x): % x", key, nonce, at, p, x)
		}
	}
}

// The keystream is the XOR with zero bytes, block by block.
func TestXorOfZerosIsThePads(t *testing.T) {
	from := samples.New(87)
	for range 20 {
		key, nonce, block := from.CipherKey(), from.Number(), from.Below(1<<31)
		x := xor(t, key, nonce, 16*block, make([]byte, 80))
		for i := range 5 {
			if !bytes.Equal(x[16*i:16*i+16], pad(t, key, nonce, block+i)) {
				t.Fatalf("block %d under % x, %d is no pad", block+i, key, nonce)
			}
		}
	}
}

func TestXorOfNothing(t *testing.T) {
	key := make([]byte, 32)
	for _, at := range []int{0, 1, 15, 16, 1 << 40} {
		for _, p := range [][]byte{nil, {}} {
			if x := xor(t, key, 0, at, p); len(x) != 0 {
				t.Errorf("Xor of nothing at %d: % x", at, x)
			}
		}
	}
}

func TestXorAtTheLimits(t *testing.T) {
	from := samples.New(88)
	longest := from.Bytes(api.MaxPlain)
	for _, size := range []int{16, 32} {
		key := from.Bytes(size)
		for _, at := range []int{0, 7, 1<<40 - 1, 1 << 40} {
			for _, nonce := range []int{0, api.MaxInt} {
				for _, p := range [][]byte{longest, longest[1:], longest[:1]} {
					if x := xor(t, key, nonce, at, p); !bytes.Equal(x, libraryXor(t, key, nonce, at, p)) {
						t.Errorf("Xor of %d bytes at %d, nonce %d, is another", len(p), at, nonce)
					}
				}
			}
		}
	}
}

func isWrong(t *testing.T, key []byte, nonce, at, n int, want api.Errno) {
	t.Helper()
	if x, err := Xor(key, nonce, at, make([]byte, n)); x != nil || err != want {
		t.Errorf("Xor under %d bytes, nonce %d, of %d bytes at %d: %d bytes, %d; want %d", len(key), nonce, n, at, len(x), err, want)
	}
}

func TestXorBeyondTheLimits(t *testing.T) {
	for _, size := range []int{16, 32} {
		key := make([]byte, size)
		for _, c := range []struct{ at, n int }{
			{0, api.MaxPlain + 1}, {0, 1 << 20}, {1<<40 + 1, 0}, {1<<40 + 1, 1}, {1<<40 + 16, 3}, {1 << 41, 1},
			{1<<62 + 5, 1}, {api.MaxInt, 0}, {api.MaxInt, 1}, {api.MaxInt - 15, 64}, {1<<40 + 1, api.MaxPlain + 1}, {1 << 40, api.MaxPlain + 1},
		} {
			isWrong(t, key, 0, c.at, c.n, api.ErrLong)
			isWrong(t, key, api.MaxInt, c.at, c.n, api.ErrLong)
		}
	}
}

// A wrong key and negative numbers are named ahead of what is too great.
func TestWrongXor(t *testing.T) {
	for _, n := range []int{0, 1, api.MaxPlain, api.MaxPlain + 1} {
		for _, at := range []int{-1, -16, -1 << 40, -1<<40 - 1, api.MinInt} {
			isWrong(t, make([]byte, 16), 0, at, n, api.ErrArg)
			isWrong(t, make([]byte, 15), -1, at, n, api.ErrArg)
		}
		for _, at := range []int{0, 1 << 40, 1<<40 + 1, api.MaxInt} {
			for _, nonce := range []int{-1, -1 << 40, api.MinInt} {
				isWrong(t, make([]byte, 32), nonce, at, n, api.ErrArg)
			}
			for _, key := range samples.WrongKeys() {
				isWrong(t, key, 0, at, n, api.ErrArg)
			}
		}
	}
}

// P7.3: arguments, results and goroutines.

func TestArgumentsAreNotModified(t *testing.T) {
	from := samples.New(89)
	for n := range 70 {
		key, wholeKey := samples.Framed(from.CipherKey())
		p, wholeBytes := samples.Framed(from.Bytes(n))
		beforeKey, beforeBytes := bytes.Clone(wholeKey), bytes.Clone(wholeBytes)
		xor(t, key, n, n, p)
		xor(t, key, n, n, key)
		pad(t, key, n, n)
		Xor(key, -1, n, p)
		Xor(key[:15], n, n, p)
		Xor(key, n, api.MaxInt, p)
		Pad(key, n, -1)
		if !bytes.Equal(wholeKey, beforeKey) || !bytes.Equal(wholeBytes, beforeBytes) {
			t.Fatalf("arguments were changed: % x, % x; they were % x, % x", wholeKey, wholeBytes, beforeKey, beforeBytes)
		}
	}
}

func TestResultsAreNewMemory(t *testing.T) {
	from := samples.New(90)
	for n := range 70 {
		key, wholeKey := samples.Framed(from.CipherKey())
		p, wholeBytes := samples.Framed(from.Bytes(n))
		beforeKey, beforeBytes := bytes.Clone(wholeKey), bytes.Clone(wholeBytes)
		x, b := xor(t, key, 1, n, p), pad(t, key, 1, n)
		samples.Spoil(xor(t, key, 1, n, p))
		samples.Spoil(pad(t, key, 1, n))
		if !bytes.Equal(wholeKey, beforeKey) || !bytes.Equal(wholeBytes, beforeBytes) {
			t.Fatal("a result shares memory with an argument")
		}
		want, wantPad := libraryXor(t, key, 1, n, p), libraryPad(t, key, 1, n)
		clear(wholeBytes)
		clear(wholeKey)
		if !bytes.Equal(x, want) || !bytes.Equal(b, wantPad) {
			t.Fatalf("a result of %d bytes is not its own", n)
		}
	}
}

// Nothing is kept from call to call.
func TestCallsDoNotTouchEachOther(t *testing.T) {
	from := samples.New(91)
	key := from.Bytes(16)
	p := from.Bytes(40)
	want := libraryXor(t, key, 3, 5, p)
	for _, other := range [][]byte{from.Bytes(16), from.Bytes(32), from.Bytes(5)} {
		Xor(other, 4, 70, p)
		Pad(other, 3, 1)
		if x := xor(t, key, 3, 5, p); !bytes.Equal(x, want) {
			t.Errorf("Xor behind another call: % x; want % x", x, want)
		}
	}
	var group sync.WaitGroup
	for range 12 {
		group.Go(func() {
			if x, err := Xor(key, 3, 5, p); !bytes.Equal(x, want) || err != api.OK {
				t.Errorf("Xor in a goroutine: % x, %d", x, err)
			}
		})
	}
	group.Wait()
}

// P7.4: twice, and in parts.

func TestXorTwice(t *testing.T) {
	k := []byte("sixteen bytes ..")
	if y := xor(t, k, 1, 0, xor(t, k, 1, 0, []byte("abc"))); string(y) != "abc" {
		t.Errorf("twice: %q", y)
	}
	from := samples.New(92)
	for range 300 {
		key, nonce, at := from.CipherKey(), from.Number(), from.Number()%(1<<40+1)
		p := from.Bytes(from.Below(150))
		x := xor(t, key, nonce, at, p)
		if y := xor(t, key, nonce, at, x); !bytes.Equal(y, p) {
			t.Fatalf("twice under % x, %d, at %d: % x; want % x", key, nonce, at, y, p)
		}
		if len(p) >= 16 && bytes.Equal(x, p) {
			t.Fatalf("once under % x, %d, at %d changes nothing", key, nonce, at)
		}
	}
}

func TestXorInParts(t *testing.T) {
	from := samples.New(93)
	for range 100 {
		key, nonce, at := from.CipherKey(), from.Number(), from.Below(100)
		p := from.Bytes(from.Below(200))
		want := xor(t, key, nonce, at, p)
		var x []byte
		for done := 0; done < len(p); {
			n := from.Below(min(len(p)-done, 40) + 1)
			x = append(x, xor(t, key, nonce, at+done, p[done:done+n])...)
			done += n
		}
		if !bytes.Equal(x, want) {
			t.Fatalf("in parts under % x, %d, at %d: % x; want % x", key, nonce, at, x, want)
		}
	}
}

func TestXorInTwoPartsAtEachPlace(t *testing.T) {
	from := samples.New(94)
	key, nonce := from.Bytes(32), from.Number()
	p := from.Bytes(50)
	for _, at := range []int{0, 5, 1<<40 - 50} {
		want := xor(t, key, nonce, at, p)
		for cut := range len(p) + 1 {
			x := append(xor(t, key, nonce, at, p[:cut]), xor(t, key, nonce, at+cut, p[cut:])...)
			if !bytes.Equal(x, want) {
				t.Errorf("in parts of %d and %d bytes at %d: % x; want % x", cut, len(p)-cut, at, x, want)
			}
		}
	}
}

// Different nonces and different keys have different keystreams.
func TestKeystreamsDiffer(t *testing.T) {
	from := samples.New(95)
	seen := map[string]bool{}
	for range 20 {
		key := from.CipherKey()
		for nonce := range 5 {
			for block := range 5 {
				b := string(pad(t, key, nonce, block))
				if seen[b] {
					t.Fatalf("Pad(% x, %d, %d) stands elsewhere too", key, nonce, block)
				}
				seen[b] = true
			}
		}
	}
}
