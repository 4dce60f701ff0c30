package mac

import (
	"bytes"
	"crypto/hmac"
	"crypto/sha256"
	"encoding/binary"
	"sync"
	"testing"
	"time"

	"moneyer/samples"
)

// slowTag follows the document's words.
func slowTag(key, p []byte) []byte {
	if len(key) > 64 {
		d := sha256.Sum256(key)
		key = d[:]
	}
	var x, y []byte
	for i := range 64 {
		a := byte(0)
		if i < len(key) {
			a = key[i]
		}
		x, y = append(x, a^54), append(y, a^92)
	}
	inner := sha256.Sum256(append(x, p...))
	outer := sha256.Sum256(append(y, inner[:]...))
	return outer[:]
}

// library is what Go's own package computes.
func library(key, p []byte) []byte {
	h := hmac.New(sha256.New, key)
	h.Write(p)
	return h.Sum(nil)
}

// slowFold follows the document's words.
func slowFold(key []byte, labels ...string) []byte {
	for _, label := range labels {
		b := binary.BigEndian.AppendUint64(nil, uint64(len(label)))
		key = library(key, append(b, label...))
	}
	return key
}

// isTag asks that both ways to compute a tag have the wanted one.
func isTag(t *testing.T, want, key []byte, parts ...[]byte) {
	t.Helper()
	if d := Mac(key, parts...); !bytes.Equal(d, want) {
		t.Fatalf("Mac(% x, % x): %x; want %x", key, parts, d, want)
	}
	if d := New(key).Mac(parts...); !bytes.Equal(d, want) {
		t.Fatalf("New(% x).Mac(% x): %x; want %x", key, parts, d, want)
	}
}

// ofJefe is the tag of the document's example.
const ofJefe = "5bdcc146bf60754e6a042426089575c75a003f089d2739839dec58b964ec3843"

// P6.1: Mac, New and a Maker.

func TestKnownTags(t *testing.T) {
	repeat := func(b byte, n int) []byte { return bytes.Repeat([]byte{b}, n) }
	counted := samples.Hex("0102030405060708090a0b0c0d0e0f10111213141516171819")
	for _, c := range []struct {
		key, p []byte
		want   string
	}{
		{[]byte("Jefe"), []byte("what do ya want for nothing?"), ofJefe},
		{repeat(0x0b, 20), []byte("Hi There"), "b0344c61d8db38535ca8afceaf0bf12b881dc200c9833da726e9376c2e32cff7"},
		{repeat(0xaa, 20), repeat(0xdd, 50), "773ea91e36800e46854db8ebd09181a72959098b3ef8c122d9635514ced565fe"},
		{counted, repeat(0xcd, 50), "82558a389a443c0ea4cc819899f2083a85f0faa3e578f8077a2e3ff46729665b"},
		{repeat(0xaa, 131), []byte("Test Using Larger Than Block-Size Key - Hash Key First"), "60e431591ee0b67f0d8a26aacbf5b77f8e0bc6213728c5140546040f0ee37f54"},
		{repeat(0xaa, 131), []byte("This is a test using a larger than block-size key and a larger than block-size data. The key needs to be hashed before being used by the HMAC algorithm."), "9b09ffa71b942fcb27635fbcd5b0e944bfdc63644f0713938a7f51535c3a35e2"},
		{nil, nil, "b613679a0814d9ec772f95d778c35fc5ff1697c493715653c6c712144292c5ad"},
		{[]byte("key"), []byte("The quick brown fox jumps over the lazy dog"), "f7bc83f430538424b13298e6aa6fb143ef4d59a14946175997479dbc2d1a3cd8"},
	} {
		isTag(t, samples.Hex(c.want), c.key, c.p)
	}
	isTag(t, samples.Hex(ofJefe), []byte("Jefe"), []byte("what do ya want "), []byte("for nothing?"))
}

func TestTagsAgreeWithTheDefinitionAndTheLibrary(t *testing.T) {
	from := samples.New(61)
	for size := range 200 {
		key := from.Bytes(size)
		for range 5 {
			p := from.Bytes(from.Below(300))
			if !bytes.Equal(slowTag(key, p), library(key, p)) {
				t.Fatalf("the definition and the library differ: % x, % x", key, p)
			}
			isTag(t, slowTag(key, p), key, p)
		}
	}
}

func TestTagsOfAllLengths(t *testing.T) {
	from := samples.New(62)
	key := from.Bytes(32)
	m := New(key)
	for n := range 300 {
		p := from.Bytes(n)
		isTag(t, library(key, p), key, p)
		if d := m.Mac(p); !bytes.Equal(d, library(key, p)) {
			t.Fatalf("Mac of %d bytes: %x", n, d)
		}
	}
	for _, n := range []int{4096, 1 << 16, 1<<20 + 1} {
		p := from.Bytes(n)
		if d := m.Mac(p); !bytes.Equal(d, library(key, p)) {
			t.Errorf("Mac of %d bytes: %x", n, d)
		}
	}
}

// A key of more than 64 bytes is replaced by its digest; one of 64 is not.
func TestKeysAroundABlock(t *testing.T) {
	from := samples.New(63)
	p := []byte("some bytes")
	for _, size := range []int{0, 1, 31, 32, 33, 63, 64, 65, 66, 127, 128, 129, 1000, 1 << 16} {
		key := from.Bytes(size)
		isTag(t, slowTag(key, p), key, p)
		digest := sha256.Sum256(key)
		if same := bytes.Equal(Mac(key, p), Mac(digest[:], p)); same != (size > 64) {
			t.Errorf("a key of %d bytes and its digest: the same tag is %t", size, same)
		}
	}
}

// Each bit of a key counts, and stands in its own place.
func TestSingleBitsOfKeys(t *testing.T) {
	for _, size := range []int{32, 64, 65} {
		for bit := range 8 * size {
			key := make([]byte, size)
			key[bit/8] = 0x80 >> (bit % 8)
			isTag(t, slowTag(key, key), key, key)
		}
	}
}

func TestTagsOfNothing(t *testing.T) {
	none := []byte{}
	for _, key := range [][]byte{nil, none, []byte("k"), make([]byte, 64), make([]byte, 65)} {
		want := library(key, nil)
		isTag(t, want, key)
		isTag(t, want, key, nil)
		isTag(t, want, key, none, nil, none)
		isTag(t, want, key, [][]byte{}...)
		isTag(t, want, key, [][]byte(nil)...)
	}
}

func TestTheOrderOfPartsCounts(t *testing.T) {
	key, a, b := []byte("k"), []byte("a"), []byte("b")
	isTag(t, library(key, []byte("ab")), key, a, b)
	isTag(t, library(key, []byte("ba")), key, b, a)
	isTag(t, library(key, []byte("aaa")), key, a, a, a)
}

func TestAMakerIsUsedRepeatedly(t *testing.T) {
	from := samples.New(64)
	for _, size := range []int{0, 16, 32, 64, 100} {
		key := from.Bytes(size)
		m := New(key)
		for range 100 {
			p := from.Bytes(from.Below(200))
			if d := m.Mac(from.Cut(p, 50)...); !bytes.Equal(d, library(key, p)) {
				t.Fatalf("Mac(% x) under % x: %x; want %x", p, key, d, library(key, p))
			}
		}
	}
}

func TestMakersDoNotTouchEachOther(t *testing.T) {
	from := samples.New(65)
	var makers [20]*Maker
	var keys [20][]byte
	for i := range makers {
		keys[i] = from.Bytes(from.Below(100))
		makers[i] = New(keys[i])
	}
	for range 1000 {
		i, p := from.Below(20), from.Bytes(from.Below(40))
		if d := makers[i].Mac(p); !bytes.Equal(d, library(keys[i], p)) {
			t.Fatalf("Mac(% x) under % x: %x; want %x", p, keys[i], d, library(keys[i], p))
		}
	}
}

// Several goroutines may come first together.
func TestAMakerIsUsedBySeveralGoroutines(t *testing.T) {
	from := samples.New(66)
	for range 50 {
		key := from.Bytes(from.Below(100))
		m := New(key)
		var group sync.WaitGroup
		for i := range 12 {
			p := from.Bytes(from.Below(150))
			want, half := library(key, p), len(p)/2
			group.Go(func() {
				for range 5 {
					if !bytes.Equal(m.Mac(p[:half], p[half:]), want) {
						t.Errorf("another tag under % x in goroutine %d", key, i)
					}
				}
			})
		}
		group.Wait()
	}
}

// Once the halves are there, the key they are made of is asked no more.
func TestTheHalvesAreComputedOnceAtTheFirstUse(t *testing.T) {
	p := []byte("some bytes")
	for _, key := range [][]byte{nil, []byte("Jefe"), bytes.Repeat([]byte{0x36}, 64), bytes.Repeat([]byte{0x5c}, 64)} {
		m := New(key)
		if m.inner != [64]byte{} || m.outer != [64]byte{} {
			t.Errorf("under % x: halves ahead of the first use", key)
		}
		for range 3 {
			if d := m.Mac(p); !bytes.Equal(d, library(key, p)) {
				t.Errorf("Mac under % x: %x", key, d)
			}
			m.key = [64]byte{1, 2, 3}
		}
	}
}

// P6.2: Same.

func TestSameOfKnownBytes(t *testing.T) {
	for _, c := range []struct {
		a, b string
		want bool
	}{
		{"ab", "ab", true},
		{"ab", "a", false},
		{"ab", "ac", false},
		{"ab", "cb", false},
		{"ab", "ba", false},
		{"ab", "", false},
		{"", "", true},
		{"a", "a\x00", false},
		{"\x00", "", false},
		{"\x00", "\x00\x00", false},
		{"\x00\x00", "\x00\x00", true},
		{"aa", "bb", false}, // the differences cancel out if they are added by XOR
		{"\x00\x01", "\x01\x00", false},
		{"\xff", "\x7f", false},
	} {
		if same := Same([]byte(c.a), []byte(c.b)); same != c.want {
			t.Errorf("Same(%q, %q): %t", c.a, c.b, same)
		}
		if same := Same([]byte(c.b), []byte(c.a)); same != c.want {
			t.Errorf("Same(%q, %q): %t", c.b, c.a, same)
		}
	}
	none := []byte{}
	if !Same(nil, nil) || !Same(nil, none) || !Same(none, nil) || !Same(none, none) {
		t.Error("nothing is not the same as nothing")
	}
	if Same(nil, make([]byte, 1)) || Same(make([]byte, 32), nil) {
		t.Error("nothing is the same as zero bytes")
	}
}

func TestSameSeesEachBit(t *testing.T) {
	from := samples.New(67)
	for _, n := range []int{1, 2, 16, 31, 32, 33, 100} {
		a := from.Bytes(n)
		b := bytes.Clone(a)
		for bit := range 8 * n {
			b[bit/8] ^= 0x80 >> (bit % 8)
			if Same(a, b) || Same(b, a) {
				t.Errorf("Same(% x, % x)", a, b)
			}
			b[bit/8] = a[bit/8]
		}
		if !Same(a, b) || !Same(a, a) {
			t.Errorf("not Same(% x, % x)", a, b)
		}
	}
}

func TestSameSeesLengths(t *testing.T) {
	a := make([]byte, 300)
	for n := range 300 {
		for _, m := range []int{0, 1, n / 2, n - 1, n, n + 1, 256, 299} {
			if m >= 0 && Same(a[:n], a[:m]) != (n == m) {
				t.Errorf("Same of %d and %d zero bytes: %t", n, m, n != m)
			}
		}
	}
}

// quickest returns the shortest time of a few comparisons of two slices.
func quickest(a, b []byte) time.Duration {
	least := time.Hour
	for range 10 {
		start := time.Now()
		Same(a, b)
		least = min(least, time.Since(start))
	}
	return least
}

// An early end would be faster by a factor of thousands.
func TestSameComparesEveryByte(t *testing.T) {
	a := make([]byte, 1<<22)
	b := bytes.Clone(a)
	all := quickest(a, b)
	b[0] = 1
	if early := quickest(a, b); early < all/20 {
		t.Errorf("slices that differ at the beginning: %v; equal ones: %v", early, all)
	}
}

// P6.3: Fold.

func TestFoldWithoutLabels(t *testing.T) {
	from := samples.New(68)
	for _, n := range []int{1, 2, 16, 32, 63, 64, 65, 100, 1000} {
		key := from.Bytes(n)
		if k := Fold(key); !bytes.Equal(k, key) {
			t.Errorf("Fold(% x): % x", key, k)
		}
		if k := Fold(key, []string{}...); !bytes.Equal(k, key) {
			t.Errorf("Fold(% x) by an empty list: % x", key, k)
		}
	}
	if k := Fold(nil); len(k) != 0 {
		t.Errorf("Fold of nothing: % x", k)
	}
	if k := Fold([]byte{}); len(k) != 0 {
		t.Errorf("Fold of no bytes: % x", k)
	}
}

func TestKnownFolds(t *testing.T) {
	for _, c := range []struct {
		key    string
		labels []string
		ahead  string // what is authenticated at last, under the key that the other labels leave
	}{
		{"k", []string{""}, "\x00\x00\x00\x00\x00\x00\x00\x00"},
		{"k", []string{"a"}, "\x00\x00\x00\x00\x00\x00\x00\x01a"},
		{"k", []string{"a", "bc"}, "\x00\x00\x00\x00\x00\x00\x00\x02bc"},
		{"", []string{"tenant", "1", "version"}, "\x00\x00\x00\x00\x00\x00\x00\x07version"},
		{"k", []string{"", ""}, "\x00\x00\x00\x00\x00\x00\x00\x00"},
	} {
		last := len(c.labels) - 1
		want := library(slowFold([]byte(c.key), c.labels[:last]...), []byte(c.ahead))
		if k := Fold([]byte(c.key), c.labels...); !bytes.Equal(k, want) {
			t.Errorf("Fold(%q, %q): %x; want %x", c.key, c.labels, k, want)
		}
	}
}

// Each byte of the length stands in its own place.
func TestFoldByLongLabels(t *testing.T) {
	from := samples.New(69)
	key := from.Bytes(32)
	for _, n := range []int{0, 1, 55, 56, 127, 128, 255, 256, 257, 511, 512, 65535, 65536, 65537, 1 << 24} {
		label := string(from.Bytes(n))
		if k := Fold(key, label); !bytes.Equal(k, slowFold(key, label)) {
			t.Errorf("Fold by %d bytes: %x; want %x", n, k, slowFold(key, label))
		}
	}
}

func TestFoldAgreesWithTheDefinition(t *testing.T) {
	from := samples.New(70)
	for range 300 {
		key := from.Bytes(from.Below(130))
		var labels []string
		for range from.Below(6) {
			labels = append(labels, string(from.Bytes(from.Below(80))))
		}
		if k := Fold(key, labels...); !bytes.Equal(k, slowFold(key, labels...)) {
			t.Fatalf("Fold(% x, %q): %x; want %x", key, labels, k, slowFold(key, labels...))
		}
	}
}

func TestFoldCountsBytesOfLabels(t *testing.T) {
	for _, label := range []string{"ä", "€uro", "\xff\xfe", "\x00", "a\x00b"} {
		if k := Fold([]byte("k"), label); !bytes.Equal(k, slowFold([]byte("k"), label)) {
			t.Errorf("Fold by %q: %x", label, k)
		}
	}
}

// The length ahead of a label keeps labels apart.
func TestDifferentLabelsFoldToDifferentKeys(t *testing.T) {
	lists := [][]string{
		{}, {""}, {"", ""}, {"a"}, {"a", ""}, {"", "a"}, {"a", "b"}, {"b", "a"}, {"ab"}, {"ba"},
		{"ab", "c"}, {"a", "bc"}, {"abc"}, {"a", "b", "c"}, {"\x00"}, {"a\x00"}, {"A"}, {"a", "a"},
	}
	seen := map[string]int{}
	for i, labels := range lists {
		k := string(Fold([]byte("k"), labels...))
		if j, ok := seen[k]; ok {
			t.Errorf("%q and %q fold to %x", lists[j], labels, k)
		}
		seen[k] = i
	}
}

// P6.4: arguments and results.

func TestArgumentsAreNotModified(t *testing.T) {
	from := samples.New(71)
	for n := range 150 {
		key, wholeKey := samples.Framed(from.Bytes(n))
		part, wholePart := samples.Framed(from.Bytes(149 - n))
		beforeKey, beforePart := bytes.Clone(wholeKey), bytes.Clone(wholePart)
		Mac(key, part, nil, part[:len(part)/2])
		m := New(key)
		m.Mac(part, part)
		m.Mac(part)
		m.Mac(key, key)
		Same(key, part)
		Same(key, key)
		Fold(key)
		Fold(key, "a", "bc")
		if !bytes.Equal(wholeKey, beforeKey) || !bytes.Equal(wholePart, beforePart) {
			t.Fatalf("arguments were changed: % x, % x; they were % x, % x", wholeKey, wholePart, beforeKey, beforePart)
		}
	}
}

func TestListsAreNotModified(t *testing.T) {
	parts := [][]byte{[]byte("a"), nil, []byte("bc"), []byte("x"), []byte("y")}
	labels := []string{"a", "bc", "x", "y"}
	m := New([]byte("k"))
	for range 2 {
		isTag(t, library([]byte("k"), []byte("abc")), []byte("k"), parts[:3]...)
		if d := m.Mac(parts[:3]...); !bytes.Equal(d, library([]byte("k"), []byte("abc"))) {
			t.Errorf("Mac: %x", d)
		}
		Fold([]byte("k"), labels[:2]...)
		if string(bytes.Join(parts, []byte(","))) != "a,,bc,x,y" || parts[1] != nil {
			t.Errorf("the parts were changed: %q", parts)
		}
		if labels[0] != "a" || labels[1] != "bc" || labels[2] != "x" || labels[3] != "y" {
			t.Errorf("the labels were changed: %q", labels)
		}
	}
}

// A key that is overwritten ahead of the first use, or behind it, is another one's.
func TestKeysAreNotRetained(t *testing.T) {
	from := samples.New(72)
	p := []byte("some bytes")
	for n := range 150 {
		given := from.Bytes(n)
		key := bytes.Clone(given)
		used, unused := New(given), New(given)
		used.Mac(p)
		clear(given)
		if !bytes.Equal(used.Mac(p), library(key, p)) || !bytes.Equal(unused.Mac(p), library(key, p)) {
			t.Fatalf("a key of %d bytes is retained", n)
		}
	}
}

func TestPartsAreNotRetained(t *testing.T) {
	m := New([]byte("k"))
	part := []byte("some bytes")
	parts := [][]byte{part}
	first := m.Mac(parts...)
	clear(part)
	clear(parts)
	want := library([]byte("k"), []byte("some bytes"))
	if !bytes.Equal(first, want) || !bytes.Equal(m.Mac([]byte("some bytes")), want) {
		t.Error("a part is retained")
	}
}

func TestResultsAreNewMemory(t *testing.T) {
	from := samples.New(73)
	for n := range 150 {
		given, whole := samples.Framed(from.Bytes(n))
		key, before := bytes.Clone(given), bytes.Clone(whole)
		p := from.Bytes(n)
		m := New(given)
		tag, made, plain, folded := Mac(given, p), m.Mac(p), Fold(given), Fold(given, "a")
		samples.Spoil(Mac(given, p))
		samples.Spoil(m.Mac(p))
		samples.Spoil(Fold(given))
		samples.Spoil(Fold(given, "a"))
		if !bytes.Equal(whole, before) {
			t.Fatalf("a result shares memory with a key of %d bytes", n)
		}
		if !bytes.Equal(tag, library(key, p)) || !bytes.Equal(made, tag) || !bytes.Equal(plain, key) || !bytes.Equal(folded, slowFold(key, "a")) {
			t.Fatalf("two results under a key of %d bytes share memory", n)
		}
		if !bytes.Equal(m.Mac(p), tag) || !bytes.Equal(New(given).Mac(p), tag) {
			t.Fatalf("a Maker of %d bytes hands out what it keeps", n)
		}
		clear(given)
		if !bytes.Equal(plain, key) {
			t.Fatalf("Fold hands out a key of %d bytes that is not its own", n)
		}
	}
}

// P6.5: parts, zero bytes behind keys, and labels in two goes.

func TestTheDivisionIntoPartsHasNoInfluence(t *testing.T) {
	from := samples.New(74)
	for range 300 {
		key, whole := from.Bytes(from.Below(100)), from.Bytes(from.Below(400))
		want := library(key, whole)
		isTag(t, want, key, whole)
		isTag(t, want, key, from.Cut(whole, 1+from.Below(100))...)
		cut := from.Below(len(whole) + 1)
		isTag(t, want, key, whole[:cut], whole[cut:])
	}
}

func TestZeroBytesBehindAKeyHaveNoInfluence(t *testing.T) {
	from := samples.New(75)
	p := []byte("some bytes")
	for size := range 65 {
		key := from.Bytes(size)
		want := Mac(key, p)
		for n := range 70 - size {
			filled := append(bytes.Clone(key), make([]byte, n)...)
			same := bytes.Equal(Mac(filled, p), want) && bytes.Equal(New(filled).Mac(p), want)
			if same != (len(filled) <= 64) {
				t.Fatalf("a key of %d bytes and %d zeros: the same tag is %t", size, n, same)
			}
		}
	}
	if bytes.Equal(Mac([]byte("\x00k"), p), Mac([]byte("k"), p)) {
		t.Error("zero bytes ahead of a key have no influence")
	}
}

func TestFoldingInTwoGoes(t *testing.T) {
	from := samples.New(76)
	for range 200 {
		key := from.Bytes(from.Below(100))
		var labels []string
		for range from.Below(8) {
			labels = append(labels, string(from.Bytes(from.Below(20))))
		}
		want := Fold(key, labels...)
		for cut := range len(labels) + 1 {
			if k := Fold(Fold(key, labels[:cut]...), labels[cut:]...); !bytes.Equal(k, want) {
				t.Fatalf("Fold(% x, %q) in two goes: %x; want %x", key, labels, k, want)
			}
		}
	}
}
