package field

import (
	"crypto/aes"
	"math/big"
	"sync"
	"testing"

	"moneyer/api"
)

// slowMul follows the document's words: the product of two polynomials, then its remainder.
func slowMul(a, b byte) byte {
	product := 0
	for i := range 8 {
		for j := range 8 {
			product ^= int(a>>i&1) * int(b>>j&1) << (i + j)
		}
	}
	for i := 14; i >= 8; i-- {
		if product>>i&1 == 1 {
			product ^= 0x11b << (i - 8)
		}
	}
	return byte(product)
}

// slowInv looks for the inverse among all bytes.
func slowInv(a byte) byte {
	for b := range 256 {
		if slowMul(a, byte(b)) == 1 {
			return byte(b)
		}
	}
	return 0
}

// slowBox follows the document's words, bit by bit.
func slowBox(a byte) byte {
	inverse := slowInv(a)
	box := byte(99)
	for n := range 5 {
		for i := range 8 {
			box ^= inverse >> i & 1 << ((i + n) % 8)
		}
	}
	return box
}

// products has what Mul returns for each pair of bytes.
func products() *[256][256]byte {
	var table [256][256]byte
	for a := range 256 {
		for b := range 256 {
			table[a][b] = Mul(byte(a), byte(b))
		}
	}
	return &table
}

// P3.1: Mul, Pow and Inv.

func TestMulOfKnownBytes(t *testing.T) {
	for _, c := range []struct{ a, b, want byte }{
		{0x57, 0x83, 0xc1},
		{0x57, 0x13, 0xfe},
		{0x13, 0x57, 0xfe},
		{0x57, 0x02, 0xae},
		{0x57, 0x04, 0x47},
		{0x57, 0x08, 0x8e},
		{0x57, 0x10, 0x07},
		{0, 0, 0},
		{0, 0xff, 0},
		{0xff, 0, 0},
		{1, 1, 1},
		{1, 0xff, 0xff},
		{0xff, 1, 0xff},
		{0x40, 2, 0x80},
		{0x80, 2, 0x1b}, // the first one that is reduced
		{2, 0x80, 0x1b},
		{0x80, 0x80, 0x9a},
		{0xff, 0xff, 0x13},
		{0x53, 0xca, 1},
	} {
		if p := Mul(c.a, c.b); p != c.want {
			t.Errorf("Mul(%#x, %#x): %#x; want %#x", c.a, c.b, p, c.want)
		}
	}
}

func TestMulOfEveryPair(t *testing.T) {
	for a := range 256 {
		for b := range 256 {
			if p, want := Mul(byte(a), byte(b)), slowMul(byte(a), byte(b)); p != want {
				t.Fatalf("Mul(%#x, %#x): %#x; want %#x", a, b, p, want)
			}
		}
	}
}

func TestPowOfKnownBytes(t *testing.T) {
	for _, c := range []struct {
		a    byte
		n    int
		want byte
	}{
		{3, 255, 1},
		{3, 256, 3},
		{3, 254, 0xf6},
		{2, 1, 2},
		{2, 7, 0x80},
		{2, 8, 0x1b},
		{2, 9, 0x36},
		{2, 51, 1},
		{0x53, 254, 0xca},
		{0, 0, 1},
		{0, 1, 0},
		{0, 5, 0},
		{0, 254, 0},
		{0, 255, 0},
		{0, 256, 0},
		{0, 1 << 62, 0},
		{0, api.MaxInt, 0},
		{0, -1, 1},
		{0, -256, 1},
		{0, api.MinInt, 1},
		{7, 0, 1},
		{7, -1, 1},
		{7, -3, 1},
		{7, -254, 1},
		{7, api.MinInt, 1},
		{7, api.MinInt + 1, 1},
		{1, api.MaxInt, 1},
		{0xff, 0, 1},
		{0xff, 1, 0xff},
	} {
		if p := Pow(c.a, c.n); p != c.want {
			t.Errorf("Pow(%#x, %d): %#x; want %#x", c.a, c.n, p, c.want)
		}
	}
}

func TestPowOfEveryByte(t *testing.T) {
	for a := range 256 {
		want := byte(1)
		for n := range 1100 {
			if p := Pow(byte(a), n); p != want {
				t.Fatalf("Pow(%#x, %d): %#x; want %#x", a, n, p, want)
			}
			want = slowMul(want, byte(a))
		}
	}
}

func TestPowOfNegativeExponents(t *testing.T) {
	for a := range 256 {
		for bit := range 63 {
			for _, n := range []int{-1 << bit, -1<<bit - 1, api.MinInt + 1<<bit} {
				if p := Pow(byte(a), n); p != 1 {
					t.Fatalf("Pow(%#x, %d): %#x", a, n, p)
				}
			}
		}
	}
}

// The powers of a byte other than 0 repeat after 255.
func TestPowOfGreatExponents(t *testing.T) {
	numbers := []int{api.MaxInt, api.MaxInt - 1, api.MaxInt - 127, 0x5555555555555555, 0x2aaaaaaaaaaaaaaa}
	for bit := 8; bit < 63; bit++ {
		numbers = append(numbers, 1<<bit-1, 1<<bit, 1<<bit+1)
	}
	for _, n := range numbers {
		rest := int(new(big.Int).Mod(big.NewInt(int64(n)), big.NewInt(255)).Int64())
		for a := range 256 {
			want := byte(0)
			if a > 0 {
				want = 1
				for range rest {
					want = Mul(want, byte(a))
				}
			}
			if p := Pow(byte(a), n); p != want {
				t.Fatalf("Pow(%#x, %d): %#x; want %#x", a, n, p, want)
			}
		}
	}
}

func TestInvOfKnownBytes(t *testing.T) {
	for a, want := range map[byte]byte{0: 0, 1: 1, 2: 0x8d, 3: 0xf6, 0x53: 0xca, 0xca: 0x53, 0x80: 0x83, 0xff: 0x1c} {
		if i := Inv(a); i != want {
			t.Errorf("Inv(%#x): %#x; want %#x", a, i, want)
		}
	}
}

func TestInvOfEveryByte(t *testing.T) {
	for a := range 256 {
		i := Inv(byte(a))
		if i != slowInv(byte(a)) {
			t.Errorf("Inv(%#x): %#x; want %#x", a, i, slowInv(byte(a)))
		}
		if a > 0 && slowMul(byte(a), i) != 1 {
			t.Errorf("Inv(%#x): %#x, and their product is %#x", a, i, slowMul(byte(a), i))
		}
	}
}

// P3.2: Box and Unbox.

func TestBoxOfKnownBytes(t *testing.T) {
	for a, want := range map[byte]byte{0: 0x63, 1: 0x7c, 2: 0x77, 0x0f: 0x76, 0x10: 0xca, 0x52: 0x00, 0x53: 0xed, 0x80: 0xcd, 0xf0: 0x8c, 0xff: 0x16} {
		if b := Box(a); b != want {
			t.Errorf("Box(%#x): %#x; want %#x", a, b, want)
		}
		if b := Unbox(want); b != a {
			t.Errorf("Unbox(%#x): %#x; want %#x", want, b, a)
		}
	}
}

func TestBoxOfEveryByte(t *testing.T) {
	for a := range 256 {
		want := slowBox(byte(a))
		if b := Box(byte(a)); b != want {
			t.Errorf("Box(%#x): %#x; want %#x", a, b, want)
		}
		if b := Unbox(want); b != byte(a) {
			t.Errorf("Unbox(%#x): %#x; want %#x", want, b, a)
		}
	}
}

// The library does not hand out its substitution, so it is compared by whole encrypted blocks.
func TestBoxEncryptsLikeTheLibrary(t *testing.T) {
	for c := range 256 {
		var key, block [16]byte
		for i := range 16 {
			key[i] = byte(c + 17*i)
			block[i] = byte(3*c + i)
		}
		library, err := aes.NewCipher(key[:])
		if err != nil {
			t.Fatal(err)
		}
		var want [16]byte
		library.Encrypt(want[:], block[:])
		if got := encrypt(key, block); got != want {
			t.Fatalf("key % x: % x; want % x", key, got, want)
		}
	}
}

// encrypt is AES with a key of 16 bytes, by this package's functions.
func encrypt(key, block [16]byte) [16]byte {
	block = xor(block, key)
	for round := 1; round <= 10; round++ {
		var moved [16]byte
		for i := range 16 {
			moved[i] = Box(block[(i+4*(i%4))%16])
		}
		if round < 10 {
			moved = mix(moved)
		}
		key = nextKey(key, round)
		block = xor(moved, key)
	}
	return block
}

func xor(a, b [16]byte) [16]byte {
	for i := range 16 {
		a[i] ^= b[i]
	}
	return a
}

func mix(block [16]byte) (mixed [16]byte) {
	for i := range 16 {
		at := func(n int) byte { return block[i/4*4+(i+n)%4] }
		mixed[i] = Mul(2, at(0)) ^ Mul(3, at(1)) ^ at(2) ^ at(3)
	}
	return mixed
}

func nextKey(key [16]byte, round int) [16]byte {
	for i := range 4 {
		key[i] ^= Box(key[12+(i+1)%4])
	}
	key[0] ^= Pow(2, round-1)
	for i := 4; i < 16; i++ {
		key[i] ^= key[i-4]
	}
	return key
}

// P3.3: the laws of the field.

func TestMulIsCommutativeWithNeutralElement(t *testing.T) {
	product := products()
	for a := range 256 {
		if product[a][1] != byte(a) || product[1][a] != byte(a) {
			t.Errorf("%#x times 1: %#x, %#x", a, product[a][1], product[1][a])
		}
		for b := range 256 {
			if product[a][b] != product[b][a] {
				t.Fatalf("%#x times %#x: %#x, and %#x turned round", a, b, product[a][b], product[b][a])
			}
		}
	}
}

func TestMulHasNoZeroDivisors(t *testing.T) {
	for a, row := range products() {
		for b, product := range row {
			if (product == 0) != (a == 0 || b == 0) {
				t.Fatalf("%#x times %#x: %#x", a, b, product)
			}
		}
	}
}

func TestMulIsAssociativeAndDistributes(t *testing.T) {
	product := products()
	for a := range 256 {
		for b := range 256 {
			ab := product[a][b]
			for c := range 256 {
				if product[ab][c] != product[a][product[b][c]] {
					t.Fatalf("%#x, %#x, %#x: not associative", a, b, c)
				}
				if product[a][b^c] != ab^product[a][c] {
					t.Fatalf("%#x, %#x, %#x: not distributive", a, b, c)
				}
			}
		}
	}
}

func TestInvIsItsOwnInverse(t *testing.T) {
	for a := range 256 {
		if b := Inv(Inv(byte(a))); b != byte(a) {
			t.Errorf("Inv(Inv(%#x)): %#x", a, b)
		}
	}
}

// P3.4: the laws of the substitution.

func TestBoxAndUnboxAreInverse(t *testing.T) {
	seen := [256]bool{}
	for a := range 256 {
		b := Box(byte(a))
		if seen[b] {
			t.Errorf("%#x is the Box of two bytes", b)
		}
		seen[b] = true
		if back := Unbox(b); back != byte(a) {
			t.Errorf("Unbox(Box(%#x)): %#x", a, back)
		}
		if back := Box(Unbox(byte(a))); back != byte(a) {
			t.Errorf("Box(Unbox(%#x)): %#x", a, back)
		}
	}
}

func TestNoByteIsItsBoxOrTheComplement(t *testing.T) {
	for a := range 256 {
		if b := Box(byte(a)); b == byte(a) || b == ^byte(a) {
			t.Errorf("Box(%#x): %#x", a, b)
		}
	}
}

// W2: results depend on arguments alone.

func TestResultsDependOnArgumentsAlone(t *testing.T) {
	var group sync.WaitGroup
	for range 4 {
		group.Go(func() {
			for a := range 256 {
				Pow(byte(a), api.MinInt)
				Pow(byte(a), api.MaxInt)
				Unbox(byte(a))
				if Mul(0x57, 0x83) != 0xc1 || Pow(2, 8) != 0x1b || Inv(0x53) != 0xca || Box(0x53) != 0xed || Unbox(0xed) != 0x53 {
					t.Errorf("other results after those of %#x", a)
				}
			}
		})
	}
	group.Wait()
}
