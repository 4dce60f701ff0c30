package box

import (
	"bytes"
	"crypto/aes"
	"crypto/cipher"
	"crypto/hmac"
	"crypto/sha256"
	"encoding/binary"
	"encoding/hex"
	"sync"
	"testing"

	"moneyer/api"
	"moneyer/samples"
)

// keys yields a key of aes, of both sizes, and one of any size for tags.
func keys(from *samples.Source) (enc, tag []byte) {
	return from.CipherKey(), from.Bytes(from.Below(100))
}

// tagged returns what precedes the tag of a sealed form, with its tag behind it, as the document's words and Go's own library make it.
func tagged(tag, about, rest []byte) []byte {
	h := hmac.New(sha256.New, tag)
	h.Write(binary.BigEndian.AppendUint64(nil, uint64(len(about))))
	h.Write(about)
	h.Write(rest)
	return append(bytes.Clone(rest), h.Sum(nil)[:16]...)
}

// library returns the sealed form that the document's words and Go's own library make.
func library(t *testing.T, enc, tag []byte, nonce uint64, about, p []byte) []byte {
	t.Helper()
	c, err := aes.NewCipher(enc)
	if err != nil {
		t.Fatal(err)
	}
	b := binary.BigEndian.AppendUint64(nil, nonce)
	first := append(bytes.Clone(b), make([]byte, 8)...)
	b = append(b, p...)
	cipher.NewCTR(c, first).XORKeyStream(b[8:], b[8:])
	return tagged(tag, about, b)
}

func seals(t *testing.T, enc, tag []byte, nonce int, about, p []byte) []byte {
	t.Helper()
	b, err := Seal(enc, tag, nonce, about, p)
	if err != api.OK {
		t.Fatalf("Seal(% x, % x, %d, % x, %d bytes): %d", enc, tag, nonce, about, len(p), err)
	}
	return b
}

// opens asks that a sealed form is opened to p and its nonce.
func opens(t *testing.T, enc, tag, about, b, p []byte, nonce int) {
	t.Helper()
	q, n, err := Open(enc, tag, about, b)
	if !bytes.Equal(q, p) || n != nonce || err != api.OK {
		t.Fatalf("Open(% x, % x, % x, % x): % x, %d, %d; want % x, %d", enc, tag, about, b, q, n, err, p, nonce)
	}
}

// rejects asks that Open answers an error, and nothing beside it.
func rejects(t *testing.T, enc, tag, about, b []byte, want api.Errno) {
	t.Helper()
	if p, n, err := Open(enc, tag, about, b); p != nil || n != 0 || err != want {
		t.Errorf("Open under %d bytes, of %d bytes: %d bytes, %d, %d; want %d", len(enc), len(b), len(p), n, err, want)
	}
}

func begin(t *testing.T, enc, tag []byte, next int) *Sealer {
	t.Helper()
	s, err := New(enc, tag, next)
	if s == nil || err != api.OK {
		t.Fatalf("New(% x, % x, %d): %v, %d", enc, tag, next, s, err)
	}
	return s
}

// P8.1: Seal and Size.

// Zero bytes are encrypted to the keystream, whose first block is here the known one of a zero key and zero bytes.
func TestKnownSeal(t *testing.T) {
	b := seals(t, make([]byte, 16), nil, 0, nil, make([]byte, 16))
	if got := hex.EncodeToString(b[:24]); got != "0000000000000000"+"66e94bd4ef8a2c3b884cfa59ca342b2e" {
		t.Errorf("Seal: %s", got)
	}
	h := hmac.New(sha256.New, nil)
	h.Write(make([]byte, 8))
	h.Write(b[:24])
	if !bytes.Equal(b[24:], h.Sum(nil)[:16]) {
		t.Errorf("its tag: % x", b[24:])
	}
}

func TestSealIsTheSealedForm(t *testing.T) {
	from := samples.New(101)
	for range 500 {
		enc, tag := keys(from)
		nonce, about, p := from.Number(), from.Bytes(from.Below(60)), from.Bytes(from.Below(120))
		want := library(t, enc, tag, uint64(nonce), about, p)
		if b := seals(t, enc, tag, nonce, about, p); !bytes.Equal(b, want) {
			t.Fatalf("Seal(% x, % x, %d, % x, % x): % x; want % x", enc, tag, nonce, about, p, b, want)
		}
	}
}

func TestSealOfAllLengths(t *testing.T) {
	from := samples.New(102)
	enc, tag := from.Bytes(32), from.Bytes(32)
	for n := range 140 {
		for _, length := range []int{0, 1, 55, 64, n} {
			about, p := from.Bytes(length), from.Bytes(n)
			want := library(t, enc, tag, uint64(n), about, p)
			if b := seals(t, enc, tag, n, about, p); !bytes.Equal(b, want) || len(b) != Size(n) {
				t.Fatalf("Seal of %d bytes, about %d: % x; want % x", n, length, b, want)
			}
		}
	}
}

// Each bit of a nonce stands in its own place, and counts for the keystream.
func TestSealWithSingleBitsOfNonces(t *testing.T) {
	from := samples.New(103)
	enc, tag := keys(from)
	p := from.Bytes(33)
	for bit := range 63 {
		for _, nonce := range []int{1 << bit, 1<<bit - 1, api.MaxInt - 1<<bit} {
			want := library(t, enc, tag, uint64(nonce), nil, p)
			if b := seals(t, enc, tag, nonce, nil, p); !bytes.Equal(b, want) {
				t.Errorf("Seal with %d: % x; want % x", nonce, b, want)
			}
		}
	}
}

func TestSealAtTheLimits(t *testing.T) {
	from := samples.New(104)
	p := from.Bytes(api.MaxPlain)
	for _, size := range []int{16, 32} {
		enc := from.Bytes(size)
		for _, nonce := range []int{0, api.MaxInt - 1, api.MaxInt} {
			for _, n := range []int{0, 1, api.MaxPlain - 1, api.MaxPlain} {
				want := library(t, enc, nil, uint64(nonce), nil, p[:n])
				if b := seals(t, enc, nil, nonce, nil, p[:n]); !bytes.Equal(b, want) {
					t.Errorf("Seal of %d bytes with %d is another", n, nonce)
				}
			}
		}
	}
}

// Neither the key of tags nor associated data has a limit.
func TestSealWithLongKeysAndMuchAbout(t *testing.T) {
	from := samples.New(105)
	enc, p := from.Bytes(16), from.Bytes(20)
	for _, n := range []int{0, 1, 63, 64, 65, 255, 256, 257, 1<<16 - 1, 1 << 16, 1<<16 + 1, 1<<20 + 3} {
		long := from.Bytes(n)
		if b := seals(t, enc, long, 9, nil, p); !bytes.Equal(b, library(t, enc, long, 9, nil, p)) {
			t.Errorf("Seal with a key of %d bytes for the tag is another", n)
		}
		b := seals(t, enc, []byte("k"), 9, long, p)
		if !bytes.Equal(b, library(t, enc, []byte("k"), 9, long, p)) {
			t.Errorf("Seal about %d bytes is another", n)
		}
		opens(t, enc, []byte("k"), long, b, p, 9)
	}
}

func TestWrongSeals(t *testing.T) {
	fails := func(enc []byte, nonce, n int, want api.Errno) {
		t.Helper()
		if b, err := Seal(enc, []byte("k"), nonce, nil, make([]byte, n)); b != nil || err != want {
			t.Errorf("Seal under %d bytes, with %d, of %d bytes: %d bytes, %d; want %d", len(enc), nonce, n, len(b), err, want)
		}
	}
	for _, n := range []int{0, 1, api.MaxPlain, api.MaxPlain + 1, 1 << 20} {
		for _, enc := range samples.WrongKeys() {
			fails(enc, 0, n, api.ErrArg)
			fails(enc, -1, n, api.ErrArg)
		}
		for _, nonce := range []int{-1, -2, -1 << 40, api.MinInt} {
			fails(make([]byte, 16), nonce, n, api.ErrArg)
			fails(make([]byte, 32), nonce, n, api.ErrArg)
		}
	}
	for _, n := range []int{api.MaxPlain + 1, api.MaxPlain + 16, 1 << 20} {
		fails(make([]byte, 16), 0, n, api.ErrLong)
		fails(make([]byte, 32), api.MaxInt, n, api.ErrLong)
	}
}

func TestSize(t *testing.T) {
	for n := range api.MaxPlain + 1 {
		if Size(n) != n+24 {
			t.Fatalf("Size(%d): %d", n, Size(n))
		}
	}
	for _, n := range []int{-1, -23, -24, -25, api.MaxPlain + 1, api.MaxPlain + 24, 1 << 40, api.MaxInt, api.MaxInt - 24, api.MinInt, api.MinInt + 1} {
		if Size(n) != 0 {
			t.Errorf("Size(%d): %d", n, Size(n))
		}
	}
}

// P8.2: Open.

func TestOpen(t *testing.T) {
	e, k := make([]byte, 32), []byte("k")
	b := seals(t, e, k, 5, []byte("x"), []byte("abc"))
	opens(t, e, k, []byte("x"), b, []byte("abc"), 5)
	rejects(t, e, k, []byte("y"), b, api.ErrTag)
	from := samples.New(106)
	for range 500 {
		enc, tag := keys(from)
		nonce, about, p := from.Number(), from.Bytes(from.Below(60)), from.Bytes(from.Below(120))
		opens(t, enc, tag, about, library(t, enc, tag, uint64(nonce), about, p), p, nonce)
	}
}

func TestOpenAtTheLimits(t *testing.T) {
	from := samples.New(107)
	enc, tag := keys(from)
	p := from.Bytes(api.MaxPlain)
	for _, nonce := range []int{0, 1, api.MaxInt - 1, api.MaxInt} {
		for _, n := range []int{0, 1, api.MaxPlain - 1, api.MaxPlain} {
			opens(t, enc, tag, tag, library(t, enc, tag, uint64(nonce), tag, p[:n]), p[:n], nonce)
		}
	}
}

// What is too short and what is too long is named ahead of its tag, be it right or wrong.
func TestOpenOfWrongLengths(t *testing.T) {
	from := samples.New(108)
	for _, size := range []int{16, 32} {
		enc, tag := from.Bytes(size), from.Bytes(20)
		rejects(t, enc, tag, nil, nil, api.ErrEnd)
		rejects(t, enc, tag, nil, []byte{}, api.ErrEnd)
		b := library(t, enc, tag, 7, nil, nil)
		for n := range b {
			rejects(t, enc, tag, nil, b[:n], api.ErrEnd)
			rejects(t, enc, tag, nil, make([]byte, n), api.ErrEnd)
		}
		opens(t, enc, tag, nil, b, nil, 7)
		rejects(t, enc, tag, nil, make([]byte, 24), api.ErrTag)
		rejects(t, enc, tag, nil, make([]byte, Size(api.MaxPlain)), api.ErrTag)
		for _, n := range []int{1, 2, 16, 1 << 16} {
			long := from.Bytes(api.MaxPlain + n)
			rejects(t, enc, tag, nil, library(t, enc, tag, 7, nil, long), api.ErrLong)
			rejects(t, enc, tag, nil, library(t, enc, tag, 1<<63, nil, long), api.ErrLong)
			rejects(t, enc, tag, nil, make([]byte, 24+len(long)), api.ErrLong)
		}
	}
}

func TestOpenUnderWrongKeys(t *testing.T) {
	b := library(t, make([]byte, 16), nil, 0, nil, []byte("abc"))
	for _, enc := range samples.WrongKeys() {
		rejects(t, enc, nil, nil, b, api.ErrArg)
		rejects(t, enc, nil, nil, b[:len(b)-1], api.ErrArg)
		rejects(t, enc, nil, nil, nil, api.ErrArg)
		rejects(t, enc, []byte("k"), nil, b, api.ErrArg)
		rejects(t, enc, nil, nil, make([]byte, 25+api.MaxPlain), api.ErrArg)
		rejects(t, enc, nil, nil, library(t, make([]byte, 16), nil, 1<<63, nil, nil), api.ErrArg)
	}
}

// A nonce that is too great is named only where the tag is right.
func TestOpenWithNoncesThatAreTooGreat(t *testing.T) {
	from := samples.New(109)
	for _, nonce := range []uint64{1 << 63, 1<<63 + 1, 1<<64 - 1, 1<<64 - 2, 3 << 62} {
		for _, n := range []int{0, 1, 40, api.MaxPlain} {
			enc, tag := keys(from)
			b := library(t, enc, tag, nonce, []byte("x"), from.Bytes(n))
			rejects(t, enc, tag, []byte("x"), b, api.ErrArg)
			rejects(t, enc, tag, []byte("y"), b, api.ErrTag)
			b[len(b)-1] ^= 1
			rejects(t, enc, tag, []byte("x"), b, api.ErrTag)
		}
	}
}

func TestOpenSeesEachBit(t *testing.T) {
	from := samples.New(110)
	enc, tag := from.Bytes(16), from.Bytes(32)
	about, p := from.Bytes(9), from.Bytes(21)
	b := library(t, enc, tag, 5, about, p)
	for _, part := range [][]byte{b, about, tag} {
		for bit := range 8 * len(part) {
			part[bit/8] ^= 0x80 >> (bit % 8)
			rejects(t, enc, tag, about, b, api.ErrTag)
			part[bit/8] ^= 0x80 >> (bit % 8)
		}
	}
	opens(t, enc, tag, about, b, p, 5)
}

// The tag tells where associated data ends; bytes do not wander over that end, nor from one end of the sealed form to the other.
func TestOpenSeesWhereAboutEnds(t *testing.T) {
	from := samples.New(111)
	enc, tag := keys(from)
	whole := from.Bytes(40)
	for end := range 41 {
		b := tagged(tag, whole[:end], append(make([]byte, 8), whole[end:]...))
		for other := range 41 {
			if other != end {
				rejects(t, enc, tag, whole[:other], b, api.ErrTag)
			}
		}
	}
	b := library(t, enc, tag, 5, []byte("about"), whole)
	rejects(t, enc, tag, nil, b, api.ErrTag)
	rejects(t, enc, tag, []byte("about\x00"), b, api.ErrTag)
	rejects(t, enc, tag, []byte("abou"), b, api.ErrTag)
	rejects(t, enc, tag, []byte("about"), b[1:], api.ErrTag)
	rejects(t, enc, tag, []byte("about"), b[:len(b)-1], api.ErrTag)
	rejects(t, enc, tag, []byte("about"), append(bytes.Clone(b), 0), api.ErrTag)
}

// The key of the encryption is not verified by the tag: under another one the bytes are others.
func TestOpenUnderOtherKeys(t *testing.T) {
	from := samples.New(112)
	enc, tag, p := from.Bytes(16), from.Bytes(16), from.Bytes(40)
	b := library(t, enc, tag, 5, nil, p)
	other := from.Bytes(32)
	q, n, err := Open(other, tag, nil, b)
	if n != 5 || err != api.OK || bytes.Equal(q, p) || !bytes.Equal(library(t, other, tag, 5, nil, q), b) {
		t.Errorf("under another key: % x, %d, %d", q, n, err)
	}
	rejects(t, enc, append(bytes.Clone(tag), 1), nil, b, api.ErrTag)
	rejects(t, enc, tag[1:], nil, b, api.ErrTag)
	rejects(t, enc, enc, nil, b, api.ErrTag)
}

// P8.3: New and a Sealer.

// issues asks that a Sealer seals p with a nonce, which it tells ahead, and then tells the one behind it.
func issues(t *testing.T, s *Sealer, enc, tag []byte, nonce int, about, p []byte) {
	t.Helper()
	if s.Next() != nonce {
		t.Fatalf("Next: %d; want %d", s.Next(), nonce)
	}
	b, err := s.Seal(about, p)
	if want := library(t, enc, tag, uint64(nonce), about, p); !bytes.Equal(b, want) || err != api.OK {
		t.Fatalf("Seal with %d: % x, %d; want % x", nonce, b, err, want)
	}
	if s.Next() != nonce+1 {
		t.Fatalf("Next behind %d: %d", nonce, s.Next())
	}
}

// refuses asks that a Sealer answers ErrLong and keeps its nonce.
func refuses(t *testing.T, s *Sealer, nonce, n int) {
	t.Helper()
	if b, err := s.Seal([]byte("x"), make([]byte, n)); b != nil || err != api.ErrLong || s.Next() != nonce {
		t.Fatalf("Seal of %d bytes with %d: %d bytes, %d, and then %d", n, nonce, len(b), err, s.Next())
	}
}

func TestASealerCounts(t *testing.T) {
	from := samples.New(113)
	for range 40 {
		enc, tag := keys(from)
		next := from.Number() % (api.MaxInt - 20)
		s := begin(t, enc, tag, next)
		for i := range 20 {
			issues(t, s, enc, tag, next+i, from.Bytes(from.Below(40)), from.Bytes(from.Below(90)))
		}
	}
}

func TestASealerBeginsAnywhere(t *testing.T) {
	from := samples.New(114)
	for _, next := range []int{0, 1, 255, 1<<31 - 1, 1 << 32, 1<<62 - 1, api.MaxInt - 2} {
		enc, tag := keys(from)
		s := begin(t, enc, tag, next)
		issues(t, s, enc, tag, next, nil, nil)
		issues(t, s, enc, tag, next+1, []byte("x"), []byte("abc"))
	}
}

// The last nonce that is used is MaxInt - 1.
func TestASealerEnds(t *testing.T) {
	from := samples.New(115)
	enc, tag := keys(from)
	s := begin(t, enc, tag, api.MaxInt-1)
	issues(t, s, enc, tag, api.MaxInt-1, []byte("x"), []byte("abc"))
	last := begin(t, enc, tag, api.MaxInt)
	for range 1000 {
		for _, n := range []int{0, 3, api.MaxPlain + 1} {
			refuses(t, s, api.MaxInt, n)
			refuses(t, last, api.MaxInt, n)
		}
	}
}

func TestASealerKeepsItsNonceWhereBytesAreTooMany(t *testing.T) {
	from := samples.New(116)
	enc, tag := keys(from)
	s := begin(t, enc, tag, 3)
	for _, n := range []int{api.MaxPlain + 1, api.MaxPlain + 2, 1 << 20} {
		refuses(t, s, 3, n)
	}
	issues(t, s, enc, tag, 3, nil, from.Bytes(api.MaxPlain))
	refuses(t, s, 4, api.MaxPlain+1)
	issues(t, s, enc, tag, 4, from.Bytes(1<<17), from.Bytes(api.MaxPlain-1))
	end := begin(t, enc, tag, api.MaxInt-1)
	refuses(t, end, api.MaxInt-1, api.MaxPlain+1)
	issues(t, end, enc, tag, api.MaxInt-1, nil, nil)
}

func TestWrongSealers(t *testing.T) {
	for _, next := range []int{-1, -2, -1 << 40, api.MinInt} {
		for _, size := range []int{16, 32, 15} {
			if s, err := New(make([]byte, size), []byte("k"), next); s != nil || err != api.ErrArg {
				t.Errorf("New under %d bytes, from %d: %v, %d", size, next, s, err)
			}
		}
	}
	for _, enc := range samples.WrongKeys() {
		for _, next := range []int{0, 1, api.MaxInt, -1} {
			if s, err := New(enc, []byte("k"), next); s != nil || err != api.ErrArg {
				t.Errorf("New under %d bytes, from %d: %v, %d", len(enc), next, s, err)
			}
		}
	}
}

func TestSealersDoNotTouchEachOther(t *testing.T) {
	from := samples.New(117)
	enc, tag := keys(from)
	other, otherTag := keys(from)
	s, same, third := begin(t, enc, tag, 5), begin(t, enc, tag, 5), begin(t, other, otherTag, 70)
	for i := range 20 {
		issues(t, s, enc, tag, 5+i, nil, []byte("abc"))
		if i%2 == 0 {
			issues(t, third, other, otherTag, 70+i/2, []byte("x"), []byte("abc"))
		}
	}
	issues(t, same, enc, tag, 5, nil, []byte("abc"))
}

// P8.4: arguments, results and goroutines.

// frames are arguments with bytes around them.
type frames struct {
	enc, tag, about, p, b []byte
	wholes, before        [][]byte
}

// frame returns arguments of which b is the sealed form of p, with a nonce of 5.
func frame(t *testing.T, from *samples.Source, n int) *frames {
	f := &frames{}
	enc, tag := keys(from)
	about, p := from.Bytes(n/2), from.Bytes(n)
	b := library(t, enc, tag, 5, about, p)
	for _, x := range []struct {
		to   *[]byte
		from []byte
	}{{&f.enc, enc}, {&f.tag, tag}, {&f.about, about}, {&f.p, p}, {&f.b, b}} {
		part, whole := samples.Framed(x.from)
		*x.to = part
		f.wholes, f.before = append(f.wholes, whole), append(f.before, bytes.Clone(whole))
	}
	return f
}

func (f *frames) check(t *testing.T) {
	t.Helper()
	for i, whole := range f.wholes {
		if !bytes.Equal(whole, f.before[i]) {
			t.Fatalf("argument %d was changed: % x; it was % x", i, whole, f.before[i])
		}
	}
}

func (f *frames) clear() {
	for _, whole := range f.wholes {
		clear(whole)
	}
}

func TestArgumentsAreNotModified(t *testing.T) {
	from := samples.New(118)
	for n := range 70 {
		f := frame(t, from, n)
		seals(t, f.enc, f.tag, 5, f.about, f.p)
		seals(t, f.enc, f.enc, 5, f.enc, f.enc)
		opens(t, f.enc, f.tag, f.about, f.b, f.p, 5)
		s := begin(t, f.enc, f.tag, api.MaxInt-1)
		s.Seal(f.about, f.p)
		s.Seal(f.about, f.p)
		Seal(f.enc, f.tag, -1, f.about, f.p)
		Open(f.enc, f.tag, f.p, f.b)
		Open(f.enc, f.tag, f.about, f.b[:len(f.b)-1])
		New(f.enc, f.tag, -1)
		f.check(t)
	}
}

func TestResultsAreNewMemory(t *testing.T) {
	from := samples.New(119)
	for n := range 70 {
		f := frame(t, from, n)
		p, want := bytes.Clone(f.p), bytes.Clone(f.b)
		b := seals(t, f.enc, f.tag, 5, f.about, f.p)
		q, _, _ := Open(f.enc, f.tag, f.about, f.b)
		s := begin(t, f.enc, f.tag, 4)
		first, _ := s.Seal(f.about, f.p)
		samples.Spoil(first)
		c, _ := s.Seal(f.about, f.p)
		samples.Spoil(seals(t, f.enc, f.tag, 5, f.about, f.p))
		again, _, _ := Open(f.enc, f.tag, f.about, f.b)
		samples.Spoil(again)
		f.check(t)
		f.clear()
		if !bytes.Equal(b, want) || !bytes.Equal(c, want) || !bytes.Equal(q, p) {
			t.Fatalf("a result of %d bytes is not its own", n)
		}
	}
}

// The spare capacity of a result shows nothing of the tag's other half.
func TestSpareCapacityIsEmpty(t *testing.T) {
	from := samples.New(120)
	for n := range 70 {
		f := frame(t, from, n)
		b := seals(t, f.enc, f.tag, 5, f.about, f.p)
		q, _, _ := Open(f.enc, f.tag, f.about, f.b)
		for _, r := range [][]byte{b, q} {
			for _, c := range r[len(r):cap(r)] {
				if c != 0 {
					t.Fatalf("behind a result of %d bytes: % x", len(r), r[len(r):cap(r)])
				}
			}
		}
	}
}

// A Sealer keeps its keys, whatever becomes of the slices that it was made of.
func TestASealerRetainsNoArguments(t *testing.T) {
	from := samples.New(121)
	for range 50 {
		enc, tag := keys(from)
		givenEnc, wholeEnc := samples.Framed(enc)
		givenTag, wholeTag := samples.Framed(tag)
		early, late := begin(t, givenEnc, givenTag, 5), begin(t, givenEnc, givenTag, 5)
		issues(t, early, enc, tag, 5, []byte("x"), []byte("abc"))
		samples.Spoil(wholeEnc)
		samples.Spoil(wholeTag)
		issues(t, early, enc, tag, 6, []byte("x"), []byte("abc"))
		issues(t, late, enc, tag, 5, []byte("x"), []byte("abc"))
	}
}

// Nothing is kept from call to call.
func TestCallsDoNotTouchEachOther(t *testing.T) {
	from := samples.New(122)
	f := frame(t, from, 40)
	for _, other := range [][]byte{from.Bytes(16), from.Bytes(32), from.Bytes(5)} {
		Seal(other, other, 5, f.p, f.about)
		Open(f.enc, other, f.about, f.b)
		if b := seals(t, f.enc, f.tag, 5, f.about, f.p); !bytes.Equal(b, f.b) {
			t.Errorf("Seal behind another call: % x; want % x", b, f.b)
		}
		opens(t, f.enc, f.tag, f.about, f.b, f.p, 5)
	}
}

// collect returns what several goroutines got of a Sealer, each by so many calls with the same arguments.
func collect(t *testing.T, s *Sealer, goroutines, calls int, about, p []byte) [][]byte {
	t.Helper()
	got := make([][][]byte, goroutines)
	var group sync.WaitGroup
	for i := range goroutines {
		group.Go(func() {
			last := -1
			for range calls {
				b, err := s.Seal(about, p)
				if err == api.OK {
					got[i] = append(got[i], b)
				} else if b != nil || err != api.ErrLong {
					t.Errorf("Seal in goroutine %d: % x, %d", i, b, err)
				}
				next := s.Next()
				if next < last {
					t.Errorf("Next in goroutine %d: %d, and then %d", i, last, next)
				}
				last = next
			}
		})
	}
	group.Wait()
	var all [][]byte
	for _, b := range got {
		all = append(all, b...)
	}
	return all
}

// hasNonces asks that sealed forms have so many nonces from a first one on, each once.
func hasNonces(t *testing.T, all [][]byte, enc, tag, about, p []byte, first, count int) {
	t.Helper()
	if len(all) != count {
		t.Fatalf("%d sealed forms; want %d", len(all), count)
	}
	seen := make([]bool, count)
	for _, b := range all {
		q, n, err := Open(enc, tag, about, b)
		if !bytes.Equal(q, p) || err != api.OK || n < first || n-first >= count || seen[n-first] {
			t.Fatalf("a sealed form of % x, nonce %d, %d", q, n, err)
		}
		seen[n-first] = true
	}
}

func TestNoNonceIsUsedTwice(t *testing.T) {
	from := samples.New(123)
	about := []byte("x")
	for _, first := range []int{0, 77, 1<<62 - 100} {
		enc, tag := keys(from)
		s := begin(t, enc, tag, first)
		p := from.Bytes(30)
		hasNonces(t, collect(t, s, 16, 60, about, p), enc, tag, about, p, first, 16*60)
		if s.Next() != first+16*60 {
			t.Errorf("Next: %d", s.Next())
		}
	}
}

// Several goroutines may come to the end together.
func TestTheEndIsReachedTogether(t *testing.T) {
	from := samples.New(124)
	about := []byte("x")
	for _, left := range []int{0, 1, 7, 100} {
		enc, tag := keys(from)
		s := begin(t, enc, tag, api.MaxInt-left)
		p := from.Bytes(10)
		hasNonces(t, collect(t, s, 16, 20, about, p), enc, tag, about, p, api.MaxInt-left, left)
		refuses(t, s, api.MaxInt, 3)
	}
}

// What is too long takes no nonce from those who seal at the same time.
func TestRefusedBytesConsumeNoNonces(t *testing.T) {
	from := samples.New(125)
	enc, tag := keys(from)
	s := begin(t, enc, tag, 9)
	var group sync.WaitGroup
	for range 4 {
		group.Go(func() {
			collect(t, s, 2, 50, nil, make([]byte, api.MaxPlain+1))
		})
	}
	p := from.Bytes(30)
	all := collect(t, s, 8, 50, nil, p)
	group.Wait()
	hasNonces(t, all, enc, tag, nil, p, 9, 8*50)
}

// P8.5: back and forth.

func TestOpenReturnsWhatWasSealed(t *testing.T) {
	from := samples.New(126)
	for range 500 {
		enc, tag := keys(from)
		nonce, about, p := from.Number(), from.Bytes(from.Below(60)), from.Bytes(from.Below(120))
		b := seals(t, enc, tag, nonce, about, p)
		opens(t, enc, tag, about, b, p, nonce)
		s := begin(t, enc, tag, nonce%api.MaxInt)
		b, err := s.Seal(about, p)
		if err != api.OK {
			t.Fatalf("Seal with %d: %d", nonce, err)
		}
		opens(t, enc, tag, about, b, p, nonce%api.MaxInt)
	}
}

// Bytes that nobody sealed, but that have their tag, are the sealed form of what they are opened to.
func TestAcceptedBytesAreASealedForm(t *testing.T) {
	from := samples.New(127)
	for range 500 {
		enc, tag := keys(from)
		about, rest := from.Bytes(from.Below(30)), from.Bytes(8+from.Below(100))
		b := tagged(tag, about, rest)
		p, n, err := Open(enc, tag, about, b)
		if rest[0] >= 0x80 {
			if p != nil || n != 0 || err != api.ErrArg {
				t.Fatalf("Open(% x): % x, %d, %d", b, p, n, err)
			}
			continue
		}
		if err != api.OK || !bytes.Equal(seals(t, enc, tag, n, about, p), b) {
			t.Fatalf("Open(% x): % x, %d, %d", b, p, n, err)
		}
	}
}
