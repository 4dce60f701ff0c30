package aes

import (
	"bytes"
	"crypto/aes"
	"encoding/binary"
	"encoding/hex"
	"sync"
	"testing"

	"moneyer/api"
	"moneyer/field"
	"moneyer/samples"
)

func cipher(t *testing.T, key []byte) *Key {
	t.Helper()
	k, err := New(key)
	if k == nil || err != api.OK {
		t.Fatalf("New(% x): %v, %d", key, k, err)
	}
	return k
}

func encrypt(t *testing.T, k *Key, b []byte) []byte {
	t.Helper()
	e, err := k.Encrypt(b)
	if len(e) != 16 || err != api.OK {
		t.Fatalf("Encrypt(% x): % x, %d", b, e, err)
	}
	return e
}

func decrypt(t *testing.T, k *Key, b []byte) []byte {
	t.Helper()
	d, err := k.Decrypt(b)
	if len(d) != 16 || err != api.OK {
		t.Fatalf("Decrypt(% x): % x, %d", b, d, err)
	}
	return d
}

// library is what Go's own package encrypts.
func library(t *testing.T, key, b []byte) []byte {
	t.Helper()
	c, err := aes.NewCipher(key)
	if err != nil {
		t.Fatal(err)
	}
	e := make([]byte, 16)
	c.Encrypt(e, b)
	return e
}

// slowRounds follows the document's words for round keys.
func slowRounds(key []byte) [][]byte {
	n := len(key) / 4
	var words [][]byte
	for i := range 4 * (n + 7) {
		if i < n {
			words = append(words, key[4*i:4*i+4])
			continue
		}
		t := bytes.Clone(words[i-1])
		if i%n == 0 {
			t = []byte{field.Box(t[1]), field.Box(t[2]), field.Box(t[3]), field.Box(t[0])}
			t[0] ^= field.Pow(2, i/n-1)
		}
		if n == 8 && i%8 == 4 {
			t = []byte{field.Box(t[0]), field.Box(t[1]), field.Box(t[2]), field.Box(t[3])}
		}
		for j := range t {
			t[j] ^= words[i-n][j]
		}
		words = append(words, t)
	}
	var rounds [][]byte
	for i := range n + 7 {
		rounds = append(rounds, bytes.Join(words[4*i:4*i+4], nil))
	}
	return rounds
}

func sameRounds(a, b [][]byte) bool {
	if len(a) != len(b) {
		return false
	}
	for i := range a {
		if !bytes.Equal(a[i], b[i]) {
			return false
		}
	}
	return true
}

// The keys that stand in the standard's examples.
const (
	short = "2b7e151628aed2a6abf7158809cf4f3c"
	long  = "603deb1015ca71be2b73aef0857d77811f352c073b6108d72d9810a30914dff4"
)

// P4.1: New and Rounds.

func TestNewTakesKeysOfTwoSizes(t *testing.T) {
	for n := range 300 {
		k, err := New(make([]byte, n))
		if n == 16 || n == 32 {
			if k == nil || err != api.OK {
				t.Errorf("New of %d bytes: %v, %d", n, k, err)
			}
		} else if k != nil || err != api.ErrArg {
			t.Errorf("New of %d bytes: %v, %d", n, k, err)
		}
	}
	if k, err := New(nil); k != nil || err != api.ErrArg {
		t.Errorf("New(nil): %v, %d", k, err)
	}
	for _, n := range []int{128, 256, 1 << 16, 1<<16 + 16, 1 << 20} {
		if k, err := New(make([]byte, n)); k != nil || err != api.ErrArg {
			t.Errorf("New of %d bytes: %v, %d", n, k, err)
		}
	}
	// Spare capacity is no part of a key.
	spare := make([]byte, 32)
	if k, err := New(spare[:24]); k != nil || err != api.ErrArg {
		t.Errorf("New of 24 bytes of 32: %v, %d", k, err)
	}
	if l := cipher(t, spare[:16]).Rounds(); len(l) != 11 {
		t.Errorf("%d round keys of 16 bytes of 32", len(l))
	}
}

func TestRoundsOfAShortKey(t *testing.T) {
	want := []string{
		"2b7e151628aed2a6abf7158809cf4f3c",
		"a0fafe1788542cb123a339392a6c7605",
		"f2c295f27a96b9435935807a7359f67f",
		"3d80477d4716fe3e1e237e446d7a883b",
		"ef44a541a8525b7fb671253bdb0bad00",
		"d4d1c6f87c839d87caf2b8bc11f915bc",
		"6d88a37a110b3efddbf98641ca0093fd",
		"4e54f70e5f5fc9f384a64fb24ea6dc4f",
		"ead27321b58dbad2312bf5607f8d292f",
		"ac7766f319fadc2128d12941575c006e",
		"d014f9a8c9ee2589e13f0cc8b6630ca6",
	}
	areRounds(t, short, want)
}

func TestRoundsOfALongKey(t *testing.T) {
	want := []string{
		"603deb1015ca71be2b73aef0857d7781",
		"1f352c073b6108d72d9810a30914dff4",
		"9ba354118e6925afa51a8b5f2067fcde",
		"a8b09c1a93d194cdbe49846eb75d5b9a",
		"d59aecb85bf3c917fee94248de8ebe96",
		"b5a9328a2678a647983122292f6c79b3",
		"812c81addadf48ba24360af2fab8b464",
		"98c5bfc9bebd198e268c3ba709e04214",
		"68007bacb2df331696e939e46c518d80",
		"c814e20476a9fb8a5025c02d59c58239",
		"de1369676ccc5a71fa2563959674ee15",
		"5886ca5d2e2f31d77e0af1fa27cf73c3",
		"749c47ab18501ddae2757e4f7401905a",
		"cafaaae3e4d59b349adf6acebd10190d",
		"fe4890d1e6188d0b046df344706c631e",
	}
	areRounds(t, long, want)
}

func areRounds(t *testing.T, key string, want []string) {
	t.Helper()
	l := cipher(t, samples.Hex(key)).Rounds()
	if len(l) != len(want) {
		t.Fatalf("%d round keys; want %d", len(l), len(want))
	}
	for i, round := range l {
		if hex.EncodeToString(round) != want[i] {
			t.Errorf("round key %d: %x; want %s", i, round, want[i])
		}
	}
}

func TestRoundsAgreeWithTheDefinition(t *testing.T) {
	from := samples.New(41)
	for range 100 {
		for _, n := range []int{16, 32} {
			key := from.Bytes(n)
			if l := cipher(t, key).Rounds(); !sameRounds(l, slowRounds(key)) {
				t.Fatalf("round keys of % x: % x", key, l)
			}
		}
	}
	for _, c := range []byte{0, 1, 0x7f, 0x80, 0xff} {
		for _, n := range []int{16, 32} {
			key := bytes.Repeat([]byte{c}, n)
			if l := cipher(t, key).Rounds(); !sameRounds(l, slowRounds(key)) {
				t.Errorf("round keys of % x: % x", key, l)
			}
		}
	}
}

func TestRoundsBeginWithTheKey(t *testing.T) {
	from := samples.New(42)
	for _, n := range []int{16, 32} {
		key := from.Bytes(n)
		l := cipher(t, key).Rounds()
		if len(l) != n/4+7 || !bytes.Equal(bytes.Join(l[:n/16], nil), key) {
			t.Errorf("round keys of % x: % x", key, l)
		}
	}
}

// P4.2: Encrypt and Decrypt.

func TestKnownBlocks(t *testing.T) {
	for _, c := range []struct{ key, block, want string }{
		{"000102030405060708090a0b0c0d0e0f", "00112233445566778899aabbccddeeff", "69c4e0d86a7b0430d8cdb78070b4c55a"},
		{"000102030405060708090a0b0c0d0e0f101112131415161718191a1b1c1d1e1f", "00112233445566778899aabbccddeeff", "8ea2b7ca516745bfeafc49904b496089"},
		{short, "3243f6a8885a308d313198a2e0370734", "3925841d02dc09fbdc118597196a0b32"},
		{short, "6bc1bee22e409f96e93d7e117393172a", "3ad77bb40d7a3660a89ecaf32466ef97"},
		{short, "ae2d8a571e03ac9c9eb76fac45af8e51", "f5d3d58503b9699de785895a96fdbaaf"},
		{short, "30c81c46a35ce411e5fbc1191a0a52ef", "43b1cd7f598ece23881b00e3ed030688"},
		{short, "f69f2445df4f9b17ad2b417be66c3710", "7b0c785e27e8ad3f8223207104725dd4"},
		{long, "6bc1bee22e409f96e93d7e117393172a", "f3eed1bdb5d2a03c064b5a7e3db181f8"},
		{long, "ae2d8a571e03ac9c9eb76fac45af8e51", "591ccb10d410ed26dc5ba74a31362870"},
		{long, "30c81c46a35ce411e5fbc1191a0a52ef", "b6ed21b99ca6f4f9f153e7b1beafed1d"},
		{long, "f69f2445df4f9b17ad2b417be66c3710", "23304b7a39f9f3ff067d8d8f9e24ecc7"},
		{"00000000000000000000000000000000", "00000000000000000000000000000000", "66e94bd4ef8a2c3b884cfa59ca342b2e"},
	} {
		k, b := cipher(t, samples.Hex(c.key)), samples.Hex(c.block)
		e := encrypt(t, k, b)
		if hex.EncodeToString(e) != c.want {
			t.Errorf("Encrypt(%s) under %s: %x; want %s", c.block, c.key, e, c.want)
		}
		if d := decrypt(t, cipher(t, samples.Hex(c.key)), samples.Hex(c.want)); !bytes.Equal(d, b) {
			t.Errorf("Decrypt(%s) under %s: %x; want %s", c.want, c.key, d, c.block)
		}
	}
}

func TestBlocksAgreeWithTheLibrary(t *testing.T) {
	from := samples.New(43)
	for range 200 {
		for _, n := range []int{16, 32} {
			key := from.Bytes(n)
			k := cipher(t, key)
			for range 20 {
				b := from.Bytes(16)
				want := library(t, key, b)
				if e := encrypt(t, k, b); !bytes.Equal(e, want) {
					t.Fatalf("Encrypt(% x) under % x: % x; want % x", b, key, e, want)
				}
				if d := decrypt(t, k, want); !bytes.Equal(d, b) {
					t.Fatalf("Decrypt(% x) under % x: % x; want % x", want, key, d, b)
				}
			}
		}
	}
}

// Each bit of a key and of a block counts, and stands in its own place.
func TestSingleBitsAgreeWithTheLibrary(t *testing.T) {
	for _, n := range []int{16, 32} {
		zero := make([]byte, n)
		for bit := range 8 * n {
			key := make([]byte, n)
			key[bit/8] = 0x80 >> (bit % 8)
			if e := encrypt(t, cipher(t, key), zero[:16]); !bytes.Equal(e, library(t, key, zero[:16])) {
				t.Errorf("under % x: % x", key, e)
			}
		}
		k := cipher(t, zero)
		for bit := range 128 {
			b := make([]byte, 16)
			b[bit/8] = 0x80 >> (bit % 8)
			e := encrypt(t, k, b)
			if !bytes.Equal(e, library(t, zero, b)) {
				t.Errorf("Encrypt(% x): % x", b, e)
			}
			if d := decrypt(t, k, e); !bytes.Equal(d, b) {
				t.Errorf("Decrypt(% x): % x; want % x", e, d, b)
			}
		}
	}
}

func TestOtherSizesAreNoBlocks(t *testing.T) {
	for _, size := range []int{16, 32} {
		used, unused := cipher(t, make([]byte, size)), cipher(t, make([]byte, size))
		used.Rounds()
		for _, n := range []int{0, 1, 2, 4, 8, 14, 15, 17, 18, 24, 31, 32, 33, 48, 64, 256, 272, 1 << 16, 1<<16 + 16} {
			for _, k := range []*Key{used, unused} {
				if e, err := k.Encrypt(make([]byte, n)); e != nil || err != api.ErrArg {
					t.Errorf("Encrypt of %d bytes: % x, %d", n, e, err)
				}
				if d, err := k.Decrypt(make([]byte, n)); d != nil || err != api.ErrArg {
					t.Errorf("Decrypt of %d bytes: % x, %d", n, d, err)
				}
			}
		}
		if e, err := used.Encrypt(nil); e != nil || err != api.ErrArg {
			t.Errorf("Encrypt(nil): % x, %d", e, err)
		}
		if d, err := used.Decrypt(nil); d != nil || err != api.ErrArg {
			t.Errorf("Decrypt(nil): % x, %d", d, err)
		}
		// A refused block leaves the key as it was.
		if !sameRounds(unused.Rounds(), used.Rounds()) || !bytes.Equal(encrypt(t, unused, make([]byte, 16)), encrypt(t, used, make([]byte, 16))) {
			t.Error("a key is another one behind a refused block")
		}
	}
}

// P4.3: arguments, results and goroutines.

func TestArgumentsAreNotModified(t *testing.T) {
	from := samples.New(44)
	for _, n := range []int{16, 32} {
		key, wholeKey := samples.Framed(from.Bytes(n))
		b, wholeBlock := samples.Framed(from.Bytes(16))
		keyBefore, blockBefore := bytes.Clone(wholeKey), bytes.Clone(wholeBlock)
		k := cipher(t, key)
		encrypt(t, k, b)
		decrypt(t, k, b)
		k.Rounds()
		New(key[:15])
		k.Encrypt(b[:15])
		k.Decrypt(b[:15])
		if !bytes.Equal(wholeKey, keyBefore) {
			t.Errorf("a key was changed: % x; it was % x", wholeKey, keyBefore)
		}
		if !bytes.Equal(wholeBlock, blockBefore) {
			t.Errorf("a block was changed: % x; it was % x", wholeBlock, blockBefore)
		}
	}
}

// The round keys are made at the first use: by then, the argument of New may have other bytes.
func TestArgumentsAreNotRetained(t *testing.T) {
	for _, text := range []string{short, long} {
		key, b := samples.Hex(text), samples.Hex("00112233445566778899aabbccddeeff")
		original, want := bytes.Clone(key), library(t, key, b)
		k := cipher(t, key)
		clear(key)
		e := encrypt(t, k, b)
		clear(b)
		if !bytes.Equal(e, want) || !sameRounds(k.Rounds(), slowRounds(original)) {
			t.Errorf("the key %s was retained", text)
		}
		d := decrypt(t, k, e)
		clear(e)
		if hex.EncodeToString(d) != "00112233445566778899aabbccddeeff" {
			t.Errorf("a block was retained: % x", d)
		}
	}
}

func TestResultsAreNewMemory(t *testing.T) {
	for _, text := range []string{short, long} {
		key, b := samples.Hex(text), samples.Hex("00112233445566778899aabbccddeeff")
		k, e := cipher(t, key), library(t, key, b)
		first, second, third := encrypt(t, k, b), decrypt(t, k, e), k.Rounds()
		samples.Spoil(encrypt(t, k, b))
		samples.Spoil(decrypt(t, k, e))
		list := k.Rounds()
		for _, round := range list {
			samples.Spoil(round)
		}
		clear(list[:cap(list)])
		if !bytes.Equal(first, e) || !bytes.Equal(second, b) || !sameRounds(third, slowRounds(key)) {
			t.Errorf("results under %s share memory", text)
		}
		if !bytes.Equal(encrypt(t, k, b), e) || !bytes.Equal(decrypt(t, k, e), b) || !sameRounds(k.Rounds(), slowRounds(key)) {
			t.Errorf("the key %s hands out what it keeps", text)
		}
	}
}

func TestRoundKeysShareNoMemory(t *testing.T) {
	for _, text := range []string{short, long} {
		key := samples.Hex(text)
		for i := range len(key)/4 + 7 {
			l, want := cipher(t, key).Rounds(), slowRounds(key)
			samples.Spoil(l[i])
			for j := range l {
				if j != i && !bytes.Equal(l[j], want[j]) {
					t.Fatalf("round keys %d and %d share memory", i, j)
				}
			}
		}
	}
}

func TestKeysDoNotTouchEachOther(t *testing.T) {
	from := samples.New(45)
	b := from.Bytes(16)
	var keys [][]byte
	var ciphers []*Key
	for i := range 40 {
		keys = append(keys, from.Bytes(16+16*(i%2)))
		ciphers = append(ciphers, cipher(t, keys[i]))
	}
	for range 2 {
		for i, k := range ciphers {
			if e := encrypt(t, k, b); !bytes.Equal(e, library(t, keys[i], b)) {
				t.Errorf("under % x: % x", keys[i], e)
			}
		}
	}
}

// Any of the three may be the first use of a key, and several goroutines may come first together.
func TestAKeyIsUsedBySeveralGoroutines(t *testing.T) {
	from := samples.New(46)
	for range 50 {
		key, b := from.Bytes(16+16*from.Below(2)), from.Bytes(16)
		want, rounds := library(t, key, b), slowRounds(key)
		k := cipher(t, key)
		var group sync.WaitGroup
		for i := range 12 {
			group.Go(func() {
				for use := range 3 {
					if !works(k, (i+use)%3, b, want, rounds) {
						t.Errorf("use %d of % x in goroutine %d", use, key, i)
					}
				}
			})
		}
		group.Wait()
	}
}

// works asks one of the three uses for what it has to return.
func works(k *Key, use int, b, e []byte, rounds [][]byte) bool {
	switch use {
	case 0:
		got, err := k.Encrypt(b)
		return err == api.OK && bytes.Equal(got, e)
	case 1:
		got, err := k.Decrypt(e)
		return err == api.OK && bytes.Equal(got, b)
	}
	return sameRounds(k.Rounds(), rounds)
}

// P4.4: there and back, and different blocks.

func TestEncryptAndDecryptAreInverse(t *testing.T) {
	from := samples.New(47)
	for range 100 {
		for _, n := range []int{16, 32} {
			k := cipher(t, from.Bytes(n))
			for range 20 {
				b := from.Bytes(16)
				if d := decrypt(t, k, encrypt(t, k, b)); !bytes.Equal(d, b) {
					t.Fatalf("Decrypt(Encrypt(% x)): % x", b, d)
				}
				if e := encrypt(t, k, decrypt(t, k, b)); !bytes.Equal(e, b) {
					t.Fatalf("Encrypt(Decrypt(% x)): % x", b, e)
				}
			}
		}
	}
}

func TestEqualBytesThereAndBack(t *testing.T) {
	for c := range 256 {
		for _, n := range []int{16, 32} {
			k, b := cipher(t, bytes.Repeat([]byte{byte(c)}, n)), bytes.Repeat([]byte{byte(^c)}, 16)
			if d := decrypt(t, k, encrypt(t, k, b)); !bytes.Equal(d, b) {
				t.Errorf("Decrypt(Encrypt(% x)): % x", b, d)
			}
		}
	}
}

func TestDifferentBlocksHaveDifferentEncryptions(t *testing.T) {
	for _, text := range []string{short, long} {
		k := cipher(t, samples.Hex(text))
		seen := map[[16]byte]int{}
		for n := range 20000 {
			b := make([]byte, 16)
			binary.BigEndian.PutUint64(b[8*(n%2):], uint64(n))
			e := [16]byte(encrypt(t, k, b))
			if m, ok := seen[e]; ok {
				t.Fatalf("blocks %d and %d have the encryption % x", m, n, e)
			}
			seen[e] = n
		}
	}
}

// A chain of encryptions comes back to its beginning by as many decryptions.
func TestLongChains(t *testing.T) {
	for _, text := range []string{short, long} {
		key := samples.Hex(text)
		k := cipher(t, key)
		library, err := aes.NewCipher(key)
		if err != nil {
			t.Fatal(err)
		}
		b, want := make([]byte, 16), make([]byte, 16)
		for range 10000 {
			b = encrypt(t, k, b)
			library.Encrypt(want, want)
		}
		if !bytes.Equal(b, want) {
			t.Errorf("10000 encryptions under %s: % x; want % x", text, b, want)
		}
		for range 10000 {
			b = decrypt(t, k, b)
		}
		if !bytes.Equal(b, make([]byte, 16)) {
			t.Errorf("10000 encryptions and decryptions under %s: % x", text, b)
		}
	}
}
