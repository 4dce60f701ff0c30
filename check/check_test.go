package check

import (
	"bytes"
	"encoding/binary"
	"hash/crc32"
	"testing"

	"moneyer/api"
	"moneyer/samples"
)

// slowSum follows the document's words, bit by bit.
func slowSum(p []byte) int {
	register := uint32(1<<32 - 1)
	for i := 0; i < len(p); i++ {
		register ^= uint32(p[i])
		for bit := 0; bit < 8; bit++ {
			out := register % 2
			register /= 2
			if out == 1 {
				register ^= 0xEDB88320
			}
		}
	}
	return int(register ^ (1<<32 - 1))
}

// sector is one as the document defines it, without the help of Lay.
func sector(content []byte) []byte {
	b := append([]byte{}, content...)
	return binary.BigEndian.AppendUint32(b, uint32(slowSum(content)))
}

func lay(t *testing.T, p []byte, size int) []byte {
	t.Helper()
	b, err := Lay(p, size)
	if err != api.OK || len(b) != size {
		t.Fatalf("Lay(%d bytes, %d): %d bytes, %d", len(p), size, len(b), err)
	}
	return b
}

// P2.1: Sum.

func TestSumOfKnownBytes(t *testing.T) {
	for s, want := range map[string]int{
		"":                 0,
		"123456789":        3421780262,
		"\x00":             0xD202EF8D,
		"\x00\x00\x00\x00": 0x2144DF1C,
		"\xff":             0xFF000000,
		"\xff\xff\xff\xff": 0xFFFFFFFF, // the greatest one
		"a":                0xE8B7BE43,
		"abc":              0x352441C2,
		"The quick brown fox jumps over the lazy dog": 0x414FA339,
	} {
		if n := Sum([]byte(s)); n != want {
			t.Errorf("Sum(%q): %d; want %d", s, n, want)
		}
	}
}

func TestSumOfNoBytes(t *testing.T) {
	none := []byte{}
	for i, n := range []int{Sum(), Sum(nil), Sum(none), Sum(nil, none, nil), Sum([][]byte{}...), Sum([][]byte(nil)...)} {
		if n != 0 {
			t.Errorf("%d: %d", i, n)
		}
	}
}

func TestSumOfEveryByte(t *testing.T) {
	for c := range 256 {
		for _, p := range [][]byte{{byte(c)}, {byte(c), 0}, {0, byte(c)}, {0xff, byte(c), 0x80}} {
			if n := Sum(p); n != slowSum(p) || n != int(crc32.ChecksumIEEE(p)) {
				t.Errorf("Sum(% x): %d; want %d", p, n, slowSum(p))
			}
		}
	}
}

func TestSumAgreesWithTheDefinition(t *testing.T) {
	from := samples.New(21)
	for n := range 600 {
		p := from.Bytes(n)
		if got := Sum(p); got != slowSum(p) || got < 0 || got >= 1<<32 {
			t.Fatalf("Sum(% x): %d; want %d", p, got, slowSum(p))
		}
	}
	for _, n := range []int{api.MaxSector - 4, api.MaxSector, api.MaxPlain, 1 << 20} {
		p := from.Bytes(n)
		if got := Sum(p); got != slowSum(p) {
			t.Errorf("Sum of %d bytes: %d; want %d", n, got, slowSum(p))
		}
	}
}

func TestSumOfParts(t *testing.T) {
	if n := Sum([]byte("12"), nil, []byte("3456789")); n != 3421780262 {
		t.Errorf("Sum(12, none, 3456789): %d", n)
	}
	if Sum([]byte("12"), []byte("3")) == Sum([]byte("3"), []byte("12")) {
		t.Error("the order of parts does not count")
	}
	from := samples.New(22)
	for range 500 {
		whole := from.Bytes(from.Below(300))
		want := slowSum(whole)
		for cut := range len(whole) + 1 {
			if n := Sum(whole[:cut], whole[cut:]); n != want {
				t.Fatalf("Sum of % x cut at %d: %d; want %d", whole, cut, n, want)
			}
		}
		parts := from.Cut(whole, 7)
		if n := Sum(parts...); n != want {
			t.Fatalf("Sum of % x in %d parts: %d; want %d", whole, len(parts), n, want)
		}
	}
	p := []byte("twice")
	if n := Sum(p, p); n != slowSum([]byte("twicetwice")) {
		t.Errorf("Sum of one part twice: %d", n)
	}
}

// P2.2: Lay.

func TestLayPutsBytesAndChecksum(t *testing.T) {
	for _, c := range []struct {
		p    string
		size int
		want string
	}{
		{"", 5, "\x00\xd2\x02\xef\x8d"},
		{"a", 5, "a\xe8\xb7\xbe\x43"},
		{"\xff", 5, "\xff\xff\x00\x00\x00"},
		{"123456789", 13, "123456789\xcb\xf4\x39\x26"},
		{"", 8, "\x00\x00\x00\x00\x21\x44\xdf\x1c"},
		{"\xff\xff\xff\xff", 8, "\xff\xff\xff\xff\xff\xff\xff\xff"},
	} {
		if b, err := Lay([]byte(c.p), c.size); string(b) != c.want || err != api.OK {
			t.Errorf("Lay(%q, %d): % x, %d; want % x", c.p, c.size, b, err, c.want)
		}
	}
	if b, err := Lay([]byte("a"), 8); !bytes.Equal(b, sector([]byte("a\x00\x00\x00"))) || err != api.OK {
		t.Errorf("Lay(a, 8): % x, %d", b, err)
	}
}

func TestLayAtEverySize(t *testing.T) {
	from := samples.New(23)
	for size := 5; size <= api.MaxSector; size++ {
		room := size - 4
		for _, n := range []int{0, 1, from.Below(room + 1), room - 1, room} {
			p := from.Bytes(n)
			want := sector(append(p, make([]byte, room-n)...))
			if b, err := Lay(p, size); !bytes.Equal(b, want) || err != api.OK {
				t.Fatalf("Lay(%d bytes, %d): %d bytes, %d", n, size, len(b), err)
			}
		}
	}
}

func TestLayRefuses(t *testing.T) {
	for _, c := range []struct {
		length, size int
		want         api.Errno
	}{
		{0, 4, api.ErrArg},
		{0, 3, api.ErrArg},
		{0, 0, api.ErrArg},
		{0, -1, api.ErrArg},
		{0, -5, api.ErrArg},
		{0, api.MinInt, api.ErrArg},
		{0, api.MinInt + 3, api.ErrArg}, // minus four wraps round
		{0, api.MaxSector + 1, api.ErrArg},
		{0, 1<<32 + 8, api.ErrArg},
		{0, api.MaxInt, api.ErrArg},
		{1, 4, api.ErrArg}, // too long as well
		{9, -1, api.ErrArg},
		{api.MaxSector, api.MaxSector + 1, api.ErrArg},
		{2, 5, api.ErrLong},
		{5, 5, api.ErrLong},
		{5, 8, api.ErrLong},
		{8, 8, api.ErrLong},
		{9, 8, api.ErrLong},
		{api.MaxSector - 3, api.MaxSector, api.ErrLong},
		{api.MaxSector, api.MaxSector, api.ErrLong},
		{1 << 20, api.MaxSector, api.ErrLong},
	} {
		if b, err := Lay(make([]byte, c.length), c.size); b != nil || err != c.want {
			t.Errorf("Lay(%d bytes, %d): %d bytes, %d; want %d", c.length, c.size, len(b), err, c.want)
		}
	}
}

func TestLayRefusesOneByteTooMany(t *testing.T) {
	for size := 5; size <= api.MaxSector; size++ {
		if b, err := Lay(make([]byte, size-3), size); b != nil || err != api.ErrLong {
			t.Fatalf("Lay(%d bytes, %d): %d bytes, %d", size-3, size, len(b), err)
		}
	}
}

// P2.2: Take.

func TestTakeReturnsWhatStandsBeforeTheChecksum(t *testing.T) {
	for b, want := range map[string]string{
		"a\xe8\xb7\xbe\x43":                "a",
		"\x00\xd2\x02\xef\x8d":             "\x00",
		"123456789\xcb\xf4\x39\x26":        "123456789",
		"\xff\xff\xff\xff\xff\xff\xff\xff": "\xff\xff\xff\xff",
		"\x00\x00\x00\x00\x21\x44\xdf\x1c": "\x00\x00\x00\x00",
	} {
		if p, err := Take([]byte(b)); string(p) != want || err != api.OK {
			t.Errorf("Take(% x): % x, %d; want % x", b, p, err, want)
		}
	}
	from := samples.New(24)
	for size := 5; size <= api.MaxSector; size++ {
		content := from.Bytes(size - 4)
		if p, err := Take(sector(content)); !bytes.Equal(p, content) || err != api.OK {
			t.Fatalf("Take of %d bytes: %d bytes, %d", size, len(p), err)
		}
	}
}

func TestTakeRefusesOtherSizes(t *testing.T) {
	from := samples.New(25)
	for _, n := range []int{api.MaxSector - 3, api.MaxSector, api.MaxSector + 100, 1 << 20} {
		if p, err := Take(sector(from.Bytes(n))); p != nil || err != api.ErrForm {
			t.Errorf("Take of %d bytes: %d bytes, %d", n+4, len(p), err)
		}
	}
	// Without any byte before it, 0 is the checksum: that is still no sector.
	for n := range 5 {
		if p, err := Take(make([]byte, n)); p != nil || err != api.ErrForm {
			t.Errorf("Take of %d zero bytes: %d bytes, %d", n, len(p), err)
		}
		if p, err := Take(bytes.Repeat([]byte{0xff}, n)); p != nil || err != api.ErrForm {
			t.Errorf("Take of %d bytes ff: %d bytes, %d", n, len(p), err)
		}
	}
	if p, err := Take(nil); p != nil || err != api.ErrForm {
		t.Errorf("Take(nil): %d bytes, %d", len(p), err)
	}
	if p, err := Take(make([]byte, api.MaxSector+1)); p != nil || err != api.ErrForm {
		t.Errorf("Take of too many bytes with a wrong checksum: %d bytes, %d", len(p), err)
	}
}

func TestTakeRefusesAnotherChecksum(t *testing.T) {
	from := samples.New(26)
	for _, n := range []int{1, 2, 4, 60, 508, api.MaxSector - 4} {
		good := sector(from.Bytes(n))
		for i := n; i < n+4; i++ {
			for change := 1; change < 256; change++ {
				b := bytes.Clone(good)
				b[i] ^= byte(change)
				if p, err := Take(b); p != nil || err != api.ErrSum {
					t.Fatalf("Take of %d bytes with %02x in byte %d: %d bytes, %d", len(b), change, i, len(p), err)
				}
			}
		}
	}
	for _, b := range []string{
		"a\x43\xbe\xb7\xe8",     // the least significant byte first
		"a\xb7\xe8\x43\xbe",     // the halves turned round
		"a\x17\x48\x41\xbc",     // not inverted at the end
		"\x00\x00\x00\x00\x00",  // no checksum at all
		"\xe8\xb7\xbe\x43a",     // ahead of its bytes
		"a\x00\xe8\xb7\xbe\x43", // of other bytes
	} {
		if p, err := Take([]byte(b)); p != nil || err != api.ErrSum {
			t.Errorf("Take(% x): % x, %d", b, p, err)
		}
	}
}

// P2.3: arguments and results.

func TestArgumentsAreNotModified(t *testing.T) {
	part, whole := samples.Framed([]byte("123456789"))
	before := bytes.Clone(whole)
	Sum(part)
	Sum(part[:2], nil, part[2:])
	Lay(part, 13)
	Lay(part, 40)
	Lay(part, 9)
	Lay(part, 4)
	Take(part)
	if !bytes.Equal(whole, before) {
		t.Errorf("an argument was changed: %q", whole)
	}
	good, whole := samples.Framed(sector([]byte("123456789")))
	before = bytes.Clone(whole)
	if p, err := Take(good); string(p) != "123456789" || err != api.OK {
		t.Errorf("Take: %q, %d", p, err)
	}
	if !bytes.Equal(whole, before) {
		t.Errorf("Take changed its argument: %q", whole)
	}
}

func TestPartsAreNotModified(t *testing.T) {
	spare := []byte("x")
	parts := [][]byte{[]byte("12"), nil, []byte("3456789"), spare}
	if n := Sum(parts[:3]...); n != 3421780262 {
		t.Errorf("Sum: %d", n)
	}
	if len(parts) != 4 || string(parts[0]) != "12" || parts[1] != nil || string(parts[2]) != "3456789" || &parts[3][0] != &spare[0] {
		t.Errorf("Sum changed the parts: %q", parts)
	}
}

func TestArgumentsAreNotRetained(t *testing.T) {
	p := []byte("123456789")
	b := lay(t, p, 20)
	want := bytes.Clone(b)
	clear(p)
	if !bytes.Equal(b, want) {
		t.Errorf("Lay kept its argument: % x", b)
	}
	content, err := Take(b)
	clear(b)
	if string(content) != "123456789\x00\x00\x00\x00\x00\x00\x00" || err != api.OK {
		t.Errorf("Take kept its argument: %q, %d", content, err)
	}
	if n := Sum([]byte("123456789")); n != 3421780262 {
		t.Errorf("Sum after that: %d", n)
	}
}

func TestResultsAreNewMemory(t *testing.T) {
	for _, size := range []int{5, 8, 13, 64, 512, 1000, api.MaxSector} {
		p := []byte("1")
		first, second := lay(t, p, size), lay(t, p, size)
		want := bytes.Clone(first)
		samples.Spoil(second)
		if string(p) != "1" || !bytes.Equal(first, want) || !bytes.Equal(lay(t, p, size), want) {
			t.Errorf("Lay(p, %d) shares memory", size)
		}
		b, whole := samples.Framed(want)
		before := bytes.Clone(whole)
		content, _ := Take(b)
		again, _ := Take(b)
		samples.Spoil(again)
		if !bytes.Equal(whole, before) || !bytes.Equal(content, want[:size-4]) {
			t.Errorf("Take of %d bytes shares memory", size)
		}
		if third, err := Take(b); !bytes.Equal(third, content) || err != api.OK {
			t.Errorf("Take of %d bytes hands out what it keeps: %d", size, err)
		}
	}
}

func TestResultsDependOnArgumentsAlone(t *testing.T) {
	for range 3 {
		Sum([]byte("something else"))
		Lay([]byte("too long"), 8)
		Lay(nil, 4)
		Take([]byte("no sector"))
		b := lay(t, []byte("a"), 8)
		p, err := Take(b)
		if Sum([]byte("123456789")) != 3421780262 || string(p) != "a\x00\x00\x00" || err != api.OK {
			t.Errorf("% x, % x, %d", b, p, err)
		}
	}
}

func TestNilAndEmptyAreTheSame(t *testing.T) {
	for size := 3; size <= 12; size++ {
		one, err1 := Lay(nil, size)
		other, err2 := Lay([]byte{}, size)
		if !bytes.Equal(one, other) || err1 != err2 {
			t.Errorf("Lay(none, %d): % x, %d and % x, %d", size, one, err1, other, err2)
		}
	}
}

// P2.4: there and back, and faults that the checksum shows.

func TestTakeReturnsWhatWasLaid(t *testing.T) {
	from := samples.New(28)
	for size := 5; size <= api.MaxSector; size++ {
		room := size - 4
		for _, n := range []int{0, 1, from.Below(room + 1), room} {
			p := from.Bytes(n)
			content, err := Take(lay(t, p, size))
			if err != api.OK || len(content) != room || !bytes.Equal(content[:n], p) || !bytes.Equal(content[n:], make([]byte, room-n)) {
				t.Fatalf("Take(Lay(% x, %d)): % x, %d", p, size, content, err)
			}
		}
	}
}

// refuses asks that a sector with a change at a place be rejected.
func refuses(t *testing.T, good []byte, at int, change ...byte) {
	t.Helper()
	b := bytes.Clone(good)
	for i, x := range change {
		b[at+i] ^= x
	}
	if p, err := Take(b); p != nil || err != api.ErrSum {
		t.Fatalf("%d bytes with % x at %d: % x, %d", len(good), change, at, p, err)
	}
}

func TestChangedBytesAreRejected(t *testing.T) {
	from := samples.New(29)
	for _, size := range []int{5, 6, 7, 8, 9, 13, 64, 100} {
		good := lay(t, from.Bytes(from.Below(size-3)), size)
		for at := range size - 4 {
			for x := 1; x < 256; x++ {
				refuses(t, good, at, byte(x))
			}
			for width := 2; width <= 4 && at+width <= size-4; width++ {
				for range 500 {
					refuses(t, good, at, change(from, width)...)
				}
			}
		}
	}
}

// change is one of so many bytes, in which the first and the last differ.
func change(from *samples.Source, width int) []byte {
	x := from.Bytes(width)
	x[0] |= 1 << from.Below(8)
	x[width-1] |= 1 << from.Below(8)
	return x
}

func TestEveryChangeOfTwoBytesIsRejected(t *testing.T) {
	good := lay(t, []byte("4111"), 10)
	for at := range 5 {
		for x := 1; x < 1<<16; x++ {
			refuses(t, good, at, byte(x>>8), byte(x))
		}
	}
}

func TestChangesInLargeSectorsAreRejected(t *testing.T) {
	from := samples.New(30)
	for _, size := range []int{512, api.MaxSector} {
		good := lay(t, from.Bytes(size-4), size)
		for range 2000 {
			width := 1 + from.Below(4)
			refuses(t, good, from.Below(size-4-width+1), change(from, width)...)
		}
		for at := size - 8; at < size-4; at++ {
			refuses(t, good, at, 1)
			refuses(t, good, at, 0x80)
		}
	}
}
