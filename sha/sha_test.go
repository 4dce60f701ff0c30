package sha

import (
	"bytes"
	"crypto/sha256"
	"encoding/binary"
	"encoding/hex"
	"math/big"
	"sync"
	"testing"

	"moneyer/api"
	"moneyer/samples"
)

// library is what Go's own package digests.
func library(p []byte) []byte {
	d := sha256.Sum256(p)
	return d[:]
}

// digest asks for the digest of parts, and that it has its size.
func digest(t *testing.T, parts ...[]byte) []byte {
	t.Helper()
	d := Sum(parts...)
	if len(d) != 32 {
		t.Fatalf("Sum(% x): %d bytes", parts, len(d))
	}
	return d
}

// isDigest asks that a Hash has the digest and the number of all that was written.
func isDigest(t *testing.T, h *Hash, all []byte) {
	t.Helper()
	if d := h.Sum(); !bytes.Equal(d, library(all)) {
		t.Fatalf("behind %d bytes: %x; want %x", len(all), d, library(all))
	}
	if n := h.Count(); n != len(all) {
		t.Fatalf("behind %d bytes: Count %d", len(all), n)
	}
}

// primes returns the first n primes.
func primes(n int) []int {
	var found []int
next:
	for p := 2; len(found) < n; p++ {
		for _, q := range found {
			if p%q == 0 {
				continue next
			}
		}
		found = append(found, p)
	}
	return found
}

// fraction returns the first 32 bits behind the point of a root of p, by bisection.
func fraction(p, degree int) int {
	goal := new(big.Int).Lsh(big.NewInt(int64(p)), uint(32*degree))
	low, high := 0, p<<32
	for high-low > 1 {
		middle := low + (high-low)/2
		if power(middle, degree).Cmp(goal) <= 0 {
			low = middle
		} else {
			high = middle
		}
	}
	return low % (1 << 32)
}

func power(n, degree int) *big.Int {
	return new(big.Int).Exp(big.NewInt(int64(n)), big.NewInt(int64(degree)), nil)
}

// slowSum follows the document's words, with constants of its own.
func slowSum(p []byte) []byte {
	var k [64]uint32
	for i, q := range primes(64) {
		k[i] = uint32(fraction(q, 3))
	}
	var h [8]uint32
	for i, q := range primes(8) {
		h[i] = uint32(fraction(q, 2))
	}
	b := append(bytes.Clone(p), 128)
	for len(b)%64 != 56 {
		b = append(b, 0)
	}
	b = binary.BigEndian.AppendUint64(b, uint64(8*len(p)))
	for ; len(b) > 0; b = b[64:] {
		slowBlock(&h, &k, b[:64])
	}
	var d []byte
	for _, word := range h {
		d = binary.BigEndian.AppendUint32(d, word)
	}
	return d
}

func slowBlock(h *[8]uint32, k *[64]uint32, block []byte) {
	rotr := func(x uint32, n int) uint32 { return x>>n | x<<(32-n) }
	var w [64]uint32
	for t := range w {
		if t < 16 {
			w[t] = binary.BigEndian.Uint32(block[4*t:])
			continue
		}
		s0 := rotr(w[t-15], 7) ^ rotr(w[t-15], 18) ^ w[t-15]>>3
		s1 := rotr(w[t-2], 17) ^ rotr(w[t-2], 19) ^ w[t-2]>>10
		w[t] = w[t-16] + s0 + w[t-7] + s1
	}
	v := *h
	for t := range w {
		a, b, c, e, f, g := v[0], v[1], v[2], v[4], v[5], v[6]
		x := v[7] + (rotr(e, 6) ^ rotr(e, 11) ^ rotr(e, 25)) + (e&f | ^e&g) + k[t] + w[t]
		y := (rotr(a, 2) ^ rotr(a, 13) ^ rotr(a, 22)) + (a&b | a&c | b&c)
		v = [8]uint32{x + y, a, b, c, v[3] + x, e, f, g}
	}
	for i := range h {
		h[i] += v[i]
	}
}

// The digests of nothing and of "abc".
const (
	ofNothing = "e3b0c44298fc1c149afbf4c8996fb92427ae41e4649b934ca495991b7852b855"
	ofABC     = "ba7816bf8f01cfea414140de5dae2223b00361a396177a9cb410ff61f20015ad"
)

// P5.1: Sum.

func TestSumOfKnownBytes(t *testing.T) {
	for s, want := range map[string]string{
		"":    ofNothing,
		"abc": ofABC,
		"a":   "ca978112ca1bbdcafac231b39a23dc4da786eff8147c4e72b9807785afee48bb",
		"abcdbcdecdefdefgefghfghighijhijkijkljklmklmnlmnomnopnopq":                                                         "248d6a61d20638b8e5c026930c3e6039a33ce45964ff2167f6ecedd419db06c1",
		"abcdefghbcdefghicdefghijdefghijkefghijklfghijklmghijklmnhijklmnoijklmnopjklmnopqklmnopqrlmnopqrsmnopqrstnopqrstu": "cf5b16a778af8380036ce59e7b0492370b249b11e8f07a51afac45037afee9d1",
		"The quick brown fox jumps over the lazy dog":                                                                      "d7a8fbb307d7809469ca9abcb0082e4f8d5651e46d3cdb762d02d0bf37c9e592",
	} {
		if d := hex.EncodeToString(digest(t, []byte(s))); d != want {
			t.Errorf("Sum(%q): %s; want %s", s, d, want)
		}
	}
	million := bytes.Repeat([]byte("a"), 1000000)
	if d := hex.EncodeToString(digest(t, million)); d != "cdc76e5c9914fb9281a1c7e284d73e67f1809a48a497200e046d39ccc7112cd0" {
		t.Errorf("Sum of a million times a: %s", d)
	}
}

func TestSumOfNoBytes(t *testing.T) {
	none := []byte{}
	for i, d := range [][]byte{Sum(), Sum(nil), Sum(none), Sum(nil, none, nil), Sum([][]byte{}...), Sum([][]byte(nil)...)} {
		if hex.EncodeToString(d) != ofNothing {
			t.Errorf("%d: %x", i, d)
		}
	}
}

// The padding changes at every length from 0 to 63 beyond full blocks.
func TestSumAgreesWithTheDefinition(t *testing.T) {
	from := samples.New(51)
	for n := range 260 {
		for _, p := range [][]byte{from.Bytes(n), make([]byte, n), bytes.Repeat([]byte{0xff}, n)} {
			if d := digest(t, p); !bytes.Equal(d, slowSum(p)) {
				t.Fatalf("Sum(% x): %x; want %x", p, d, slowSum(p))
			}
		}
	}
}

func TestSumAgreesWithTheLibrary(t *testing.T) {
	from := samples.New(52)
	for n := range 2000 {
		p := from.Bytes(n)
		if d := digest(t, p); !bytes.Equal(d, library(p)) {
			t.Fatalf("Sum of %d bytes: %x; want %x", n, d, library(p))
		}
	}
	for _, n := range []int{api.MaxSector - 1, api.MaxSector, api.MaxPlain - 1, api.MaxPlain, 1<<20 + 55, 1<<20 + 56, 1 << 22} {
		p := from.Bytes(n)
		if d := digest(t, p); !bytes.Equal(d, library(p)) {
			t.Errorf("Sum of %d bytes: %x; want %x", n, d, library(p))
		}
	}
}

// From 2^29 bytes on the number of bits needs more than one word.
func TestSumOfVeryManyBytes(t *testing.T) {
	if testing.Short() {
		t.Skip("half a gibibyte takes seconds")
	}
	piece := make([]byte, 1<<20)
	h, want := New(), sha256.New()
	for range 1 << 9 {
		h.Write(piece)
		want.Write(piece)
	}
	if d := h.Sum(); !bytes.Equal(d, want.Sum(nil)) || h.Count() != 1<<29 {
		t.Errorf("behind 2^29 bytes: %x, %d; want %x", d, h.Count(), want.Sum(nil))
	}
}

// Each byte and each bit of a block counts, and stands in its own place.
func TestSumOfSingleBits(t *testing.T) {
	for _, n := range []int{1, 55, 56, 64, 128} {
		for bit := range 8 * n {
			p := make([]byte, n)
			p[bit/8] = 0x80 >> (bit % 8)
			if d := digest(t, p); !bytes.Equal(d, library(p)) {
				t.Fatalf("Sum(% x): %x; want %x", p, d, library(p))
			}
		}
	}
}

func TestSumOfParts(t *testing.T) {
	if d := hex.EncodeToString(digest(t, []byte("a"), []byte("bc"))); d != ofABC {
		t.Errorf("Sum(a, bc): %s", d)
	}
	if bytes.Equal(Sum([]byte("a"), []byte("b")), Sum([]byte("b"), []byte("a"))) {
		t.Error("the order of parts does not count")
	}
	p := []byte("twice")
	if d := digest(t, p, p); !bytes.Equal(d, library([]byte("twicetwice"))) {
		t.Errorf("Sum of one part twice: %x", d)
	}
}

// P5.2: Word and Start.

func TestWordsAndStarts(t *testing.T) {
	for i, want := range map[int]int{0: 0x428a2f98, 1: 0x71374491, 18: 0x0fc19dc6, 31: 0x14292967, 32: 0x27b70a85, 63: 0xc67178f2} {
		if k := Word(i); k != want {
			t.Errorf("Word(%d): %x; want %x", i, k, want)
		}
	}
	for i, want := range []int{0x6a09e667, 0xbb67ae85, 0x3c6ef372, 0xa54ff53a, 0x510e527f, 0x9b05688c, 0x1f83d9ab, 0x5be0cd19} {
		if h := Start(i); h != want {
			t.Errorf("Start(%d): %x; want %x", i, h, want)
		}
	}
	for i, p := range primes(64) {
		if k := Word(i); k != fraction(p, 3) {
			t.Errorf("Word(%d): %x; want %x", i, k, fraction(p, 3))
		}
	}
	for i, p := range primes(8) {
		if h := Start(i); h != fraction(p, 2) {
			t.Errorf("Start(%d): %x; want %x", i, h, fraction(p, 2))
		}
	}
}

func TestOtherNumbersHaveNoWord(t *testing.T) {
	for _, i := range []int{-1, -2, -7, -8, -63, -64, 64, 65, 127, 128, 255, 256, 1 << 32, 1<<32 + 1, -1 << 32, api.MaxInt, api.MinInt, api.MinInt + 1} {
		if k := Word(i); k != 0 {
			t.Errorf("Word(%d): %x", i, k)
		}
		if h := Start(i); h != 0 {
			t.Errorf("Start(%d): %x", i, h)
		}
	}
	for i := 8; i < 300; i++ {
		if h := Start(i); h != 0 {
			t.Errorf("Start(%d): %x", i, h)
		}
	}
}

// P5.3: New, Write, Sum and Count.

func TestNewHasNothing(t *testing.T) {
	h := New()
	isDigest(t, h, nil)
	h.Write()
	h.Write(nil)
	h.Write([]byte{}, nil)
	h.Write([][]byte{}...)
	isDigest(t, h, nil)
	if hex.EncodeToString(h.Sum()) != ofNothing {
		t.Errorf("of nothing: %x", h.Sum())
	}
}

func TestWriteGoesOnBehindSum(t *testing.T) {
	from := samples.New(53)
	h := New()
	var all []byte
	for len(all) < 700 {
		isDigest(t, h, all)
		isDigest(t, h, all) // asking changes nothing
		p := from.Bytes(1)
		h.Write(p)
		all = append(all, p...)
	}
	isDigest(t, h, all)
}

// Asked only at the end, a Hash has the same as one that was asked in between.
func TestSumInBetweenChangesNothing(t *testing.T) {
	from := samples.New(54)
	for range 200 {
		asked, unasked := New(), New()
		var all []byte
		for range 20 {
			p := from.Bytes(from.Below(100))
			asked.Write(p)
			unasked.Write(p)
			all = append(all, p...)
			isDigest(t, asked, all)
		}
		isDigest(t, unasked, all)
	}
}

func TestWriteTakesSeveralParts(t *testing.T) {
	from := samples.New(55)
	for range 300 {
		h := New()
		var all []byte
		for range 5 {
			p := from.Bytes(from.Below(200))
			h.Write(from.Cut(p, 70)...)
			all = append(all, p...)
			isDigest(t, h, all)
		}
	}
}

func TestHashesDoNotTouchEachOther(t *testing.T) {
	from := samples.New(56)
	var hashes [20]*Hash
	var all [20][]byte
	for i := range hashes {
		hashes[i] = New()
	}
	for range 1000 {
		i, p := from.Below(20), from.Bytes(from.Below(40))
		hashes[i].Write(p)
		all[i] = append(all[i], p...)
	}
	for i, h := range hashes {
		isDigest(t, h, all[i])
	}
	isDigest(t, New(), nil)
}

// Several goroutines that only ask do not disturb each other.
func TestSumBySeveralGoroutines(t *testing.T) {
	from := samples.New(57)
	p := from.Bytes(150)
	h := New()
	h.Write(p)
	var group sync.WaitGroup
	for range 8 {
		group.Go(func() {
			for range 50 {
				if !bytes.Equal(h.Sum(), library(p)) || h.Count() != len(p) || !bytes.Equal(Sum(p), library(p)) {
					t.Error("another digest in a goroutine")
				}
			}
		})
	}
	group.Wait()
	isDigest(t, h, p)
}

// P5.4: arguments and results.

func TestArgumentsAreNotModified(t *testing.T) {
	from := samples.New(58)
	for n := range 200 {
		part, whole := samples.Framed(from.Bytes(n))
		before := bytes.Clone(whole)
		h := New()
		h.Write(part[:n/2], part[n/2:])
		h.Sum()
		h.Write(part)
		h.Sum()
		Sum(part)
		Sum(part[:n/3], nil, part[n/3:])
		if !bytes.Equal(whole, before) {
			t.Fatalf("an argument was changed: % x; it was % x", whole, before)
		}
	}
}

func TestPartsAreNotModified(t *testing.T) {
	spare := []byte("x")
	parts := [][]byte{[]byte("a"), nil, []byte("bc"), spare}
	h := New()
	h.Write(parts[:3]...)
	if d := hex.EncodeToString(Sum(parts[:3]...)); d != ofABC || hex.EncodeToString(h.Sum()) != ofABC {
		t.Errorf("Sum: %s; behind Write: %x", d, h.Sum())
	}
	if len(parts) != 4 || string(parts[0]) != "a" || parts[1] != nil || string(parts[2]) != "bc" || &parts[3][0] != &spare[0] {
		t.Errorf("the parts were changed: %q", parts)
	}
}

func TestArgumentsAreNotRetained(t *testing.T) {
	from := samples.New(59)
	for n := range 200 {
		p := from.Bytes(n)
		all := bytes.Clone(p)
		parts := [][]byte{p[:n/2], p[n/2:]}
		h := New()
		h.Write(parts...)
		clear(p)
		clear(parts)
		isDigest(t, h, all)
		h.Write([]byte("more"))
		isDigest(t, h, append(all, "more"...))
	}
}

func TestResultsAreNewMemory(t *testing.T) {
	from := samples.New(60)
	for n := range 200 {
		p := from.Bytes(n)
		first := Sum(p)
		samples.Spoil(Sum(p))
		if !bytes.Equal(first, library(p)) || !bytes.Equal(Sum(p), library(p)) {
			t.Fatalf("Sum of %d bytes shares memory", n)
		}
		h := New()
		h.Write(p)
		first = h.Sum()
		samples.Spoil(h.Sum())
		if !bytes.Equal(first, library(p)) {
			t.Fatalf("two digests of %d bytes share memory", n)
		}
		isDigest(t, h, p)
		samples.Spoil(first)
		h.Write(p)
		isDigest(t, h, append(bytes.Clone(p), p...))
	}
	samples.Spoil(Sum())
	isDigest(t, New(), nil)
}

func TestADigestIsWrittenIntoItsOwnHash(t *testing.T) {
	h := New()
	var all []byte
	for range 20 {
		d := h.Sum()
		h.Write(d, d)
		all = append(append(all, d...), d...)
		isDigest(t, h, all)
	}
}

// P5.5: parts and the whole.

func TestEveryCutHasTheDigestOfTheWhole(t *testing.T) {
	from := samples.New(61)
	for _, n := range []int{1, 2, 55, 56, 57, 63, 64, 65, 119, 120, 127, 128, 129, 200} {
		whole := from.Bytes(n)
		for cut := range n + 1 {
			if d := digest(t, whole[:cut], whole[cut:]); !bytes.Equal(d, library(whole)) {
				t.Fatalf("Sum of %d bytes cut at %d: %x", n, cut, d)
			}
			h := New()
			h.Write(whole[:cut])
			h.Write(whole[cut:])
			isDigest(t, h, whole)
		}
	}
}

func TestAnyPartsHaveTheDigestOfTheWhole(t *testing.T) {
	from := samples.New(62)
	for range 500 {
		whole := from.Bytes(from.Below(1000))
		parts := from.Cut(whole, 1+from.Below(200))
		if d := digest(t, parts...); !bytes.Equal(d, library(whole)) {
			t.Fatalf("Sum of %d bytes in %d parts: %x", len(whole), len(parts), d)
		}
		h := New()
		for _, part := range parts {
			h.Write(part)
		}
		isDigest(t, h, whole)
	}
}

// P5.6: the constants and the roots.

// isRoot asks that the root of p to a degree lies from its integer part and n on to less than one step further.
func isRoot(t *testing.T, n, p, degree int) {
	t.Helper()
	whole := 0
	for power(whole+1, degree).Cmp(big.NewInt(int64(p))) <= 0 {
		whole++
	}
	goal := new(big.Int).Lsh(big.NewInt(int64(p)), uint(32*degree))
	if n <= 0 || n >= 1<<32 || power(whole<<32+n, degree).Cmp(goal) >= 0 || power(whole<<32+n+1, degree).Cmp(goal) <= 0 {
		t.Errorf("%x is not the fraction of the root of %d to the degree %d", n, p, degree)
	}
}

func TestConstantsAreTheFractionsOfRoots(t *testing.T) {
	for i, p := range primes(64) {
		isRoot(t, Word(i), p, 3)
	}
	for i, p := range primes(8) {
		isRoot(t, Start(i), p, 2)
	}
}
