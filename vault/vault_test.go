package vault

import (
	"bytes"
	"fmt"
	"runtime"
	"strings"
	"sync"
	"sync/atomic"
	"testing"
	"unsafe"

	"moneyer/api"
	"moneyer/ffx"
	"moneyer/keys"
	"moneyer/pan"
	"moneyer/samples"
)

// owner is whom a vault is for: what its tokens depend on beside the version.
type owner struct {
	master []byte
	tenant int
}

// anyone yields owners.
func anyone(from *samples.Source) owner {
	return owner{from.Bytes(16 + from.Below(49)), 1 + from.Below(64)}
}

// vault returns an owner's vault, which New has to make.
func (o owner) vault(t *testing.T, version int) *Vault {
	t.Helper()
	v, err := New(o.master, o.tenant, version)
	if v == nil || err != api.OK {
		t.Fatalf("New(% x, %d, %d): %v, %d", o.master, o.tenant, version, v, err)
	}
	return v
}

// cipher returns the one for a well-shaped string, as the document's words tell it.
func (o owner) cipher(t *testing.T, version int, s string) *ffx.Cipher {
	t.Helper()
	ring, err := keys.New(o.master)
	if err != api.OK {
		t.Fatalf("keys.New: %d", err)
	}
	key, err := ring.Key(o.tenant, api.KeyToken, version)
	if err != api.OK {
		t.Fatalf("Key of version %d: %d", version, err)
	}
	c, err := ffx.New(key, []byte(s[:6]+s[len(s)-4:]))
	if err != api.OK {
		t.Fatalf("ffx.New: %d", err)
	}
	return c
}

// token returns what a well-shaped string is under a version, with the version.
func (o owner) token(t *testing.T, version int, s string) string {
	t.Helper()
	middle, err := o.cipher(t, version, s).Encrypt(s[6 : len(s)-4])
	if err != api.OK {
		t.Fatalf("Encrypt: %d", err)
	}
	return fmt.Sprintf("%s%s%s.%d", s[:6], middle, s[len(s)-4:], version)
}

// origin returns the well-shaped string that is x under a version.
func (o owner) origin(t *testing.T, version int, x string) string {
	t.Helper()
	middle, err := o.cipher(t, version, x).Decrypt(x[6 : len(x)-4])
	if err != api.OK {
		t.Fatalf("Decrypt: %d", err)
	}
	return x[:6] + middle + x[len(x)-4:]
}

// isToken asks for the token of a card number.
func isToken(t *testing.T, v *Vault, s, want string) {
	t.Helper()
	if token, err := v.Token(s); token != want || err != api.OK {
		t.Fatalf("Token(%q) in version %d: %q, %d; want %q", s, v.Version(), token, err, want)
	}
}

// comesBack asks for the card number of a token, and for its renewed token.
func comesBack(t *testing.T, v *Vault, token, s, renewed string) {
	t.Helper()
	if got, err := v.Back(token); got != s || err != api.OK {
		t.Fatalf("Back(%q) in version %d: %q, %d; want %q", token, v.Version(), got, err, s)
	}
	if got, err := v.Renew(token); got != renewed || err != api.OK {
		t.Fatalf("Renew(%q) in version %d: %q, %d; want %q", token, v.Version(), got, err, renewed)
	}
}

// noBack asks Back and Renew for an error.
func noBack(t *testing.T, v *Vault, token string, want api.Errno) {
	t.Helper()
	if got, err := v.Back(token); got != "" || err != want {
		t.Fatalf("Back(%.60q) in version %d: %q, %d; want %d", token, v.Version(), got, err, want)
	}
	if got, err := v.Renew(token); got != "" || err != want {
		t.Fatalf("Renew(%.60q) in version %d: %q, %d; want %d", token, v.Version(), got, err, want)
	}
}

// rotated asks for the next version.
func rotated(t *testing.T, v *Vault, want int) {
	t.Helper()
	if version, err := v.Rotate(); version != want || err != api.OK || v.Version() != want {
		t.Fatalf("Rotate: %d, %d, and then %d; want %d", version, err, v.Version(), want)
	}
}

// full asks that there is no further version.
func full(t *testing.T, v *Vault) {
	t.Helper()
	if version, err := v.Rotate(); version != 0 || err != api.ErrFull || v.Version() != 255 {
		t.Fatalf("Rotate: %d, %d, and then %d", version, err, v.Version())
	}
}

// misshaped are neither well-shaped nor tokens.
func misshaped() []string {
	wrong := []string{
		"", "x", ".", "1", ".1", "411111111111111", "41111111111111111111", "411111******1111",
		"4111 1111 1111 1111", " 4111111111111111", "4111111111111111 ", "4111111111111111\x00", "+411111111111111", "-411111111111111",
		"411111111111111x", "411111111111111é", "\xff111111111111111", "４１１１１１",
		strings.Repeat("0", 15), strings.Repeat("0", 20), strings.Repeat("0", 32), strings.Repeat("0", 256+16), strings.Repeat("0", 1<<20),
	}
	for at := range 16 {
		for _, c := range []byte{0, ' ', '*', '/', ':', 'x', '0' | 0x80} {
			s := []byte("4111111111111111")
			s[at] = c
			wrong = append(wrong, string(s))
		}
	}
	return wrong
}

// invalid returns a well-shaped string that has another last digit than a card number.
func invalid(s string) string {
	last := len(s) - 1
	return s[:last] + string('0'+(s[last]-'0'+1)%10)
}

// P14.1: New, Version and Rotate.

func TestNewTakesMastersOfTheirSizes(t *testing.T) {
	from := samples.New(201)
	for size := range 300 {
		master := from.Bytes(size)
		v, err := New(master, 1, 1)
		if right := size >= 16 && size <= 64; right != (v != nil) || right != (err == api.OK) || !right && err != api.ErrArg {
			t.Errorf("New of %d bytes: %v, %d", size, v, err)
		}
	}
	for _, master := range [][]byte{nil, {}, make([]byte, 64)[:15], make([]byte, 80)[:65], make([]byte, 1<<20)} {
		if v, err := New(master, 1, 1); v != nil || err != api.ErrArg {
			t.Errorf("New of %d bytes: %v, %d", len(master), v, err)
		}
	}
}

// All tenants and versions that there are, and some beyond each end.
func TestNewTakesAllTenantsAndVersions(t *testing.T) {
	master := samples.New(202).Bytes(32)
	for tenant := -2; tenant <= 67; tenant++ {
		for version := -2; version <= 258; version++ {
			v, err := New(master, tenant, version)
			if tenant < 1 || tenant > 64 || version < 1 || version > 255 {
				if v != nil || err != api.ErrArg {
					t.Fatalf("New for tenant %d, version %d: %v, %d", tenant, version, v, err)
				}
				continue
			}
			if err != api.OK || v.Version() != version {
				t.Fatalf("New for tenant %d, version %d: %d", tenant, version, err)
			}
		}
	}
}

func TestNewRefusesNumbersFarAway(t *testing.T) {
	master := samples.New(203).Bytes(16)
	for _, n := range []int{api.MinInt, api.MinInt + 1, -1 << 32, 1<<32 + 1, -255, -64, -1, 0, 256, 257, 1<<8 + 1, 1<<16 + 1, 1<<40 + 2, api.MaxInt - 1, api.MaxInt} {
		for _, c := range []struct{ tenant, version int }{{n, 1}, {1, n}, {n, n}, {0, n}, {n, 256}} {
			if v, err := New(master, c.tenant, c.version); v != nil || err != api.ErrArg {
				t.Errorf("New for tenant %d, version %d: %v, %d", c.tenant, c.version, v, err)
			}
		}
	}
}

func TestRotate(t *testing.T) {
	from := samples.New(204)
	for begin := 1; begin <= 255; begin++ {
		v := anyone(from).vault(t, begin)
		for version := begin + 1; version <= 255; version++ {
			rotated(t, v, version)
		}
		for range 5 {
			full(t, v)
		}
	}
}

// A refused Rotate changes nothing, however often.
func TestRotateAtTheEnd(t *testing.T) {
	from := samples.New(205)
	o := anyone(from)
	for _, begin := range []int{254, 255} {
		v := o.vault(t, begin)
		s := from.Card(16)
		first := o.token(t, begin, s)
		isToken(t, v, s, first)
		for v.Version() < 255 {
			rotated(t, v, v.Version()+1)
		}
		last := o.token(t, 255, s)
		for range 1000 {
			full(t, v)
		}
		isToken(t, v, s, last)
		comesBack(t, v, first, s, last)
		comesBack(t, v, last, s, last)
	}
}

// P14.2: Token, Back and Renew.

// They were made by Go's own ciphers and numbers, after the words of the chapters 6, 10, 13 and 14.
func TestKnownTokens(t *testing.T) {
	const short = "0123456789abcdef"
	for _, c := range []struct {
		master          string
		tenant, version int
		s, want         string
	}{
		{short, 3, 1, "4111111111111111", "4111110039431111.1"},
		{short, 3, 2, "4111111111111111", "4111112213301111.2"},
		{short, 4, 1, "4111111111111111", "4111116577991111.1"},
		{"0123456789abcdee", 3, 1, "4111111111111111", "4111118347481111.1"},
		{short, 1, 1, "0000000000000000", "0000008049860000.1"},
		{short + short, 10, 10, "00000000000000018", "00000019794910018.10"},
		{short + short, 64, 255, "000000000000000018", "000000422157630018.255"},
		{short + short + short + short, 64, 254, "4000000000000000006", "4000002270790740006.254"},
	} {
		v := owner{[]byte(c.master), c.tenant}.vault(t, c.version)
		isToken(t, v, c.s, c.want)
		comesBack(t, v, c.want, c.s, c.want)
	}
}

func TestTokens(t *testing.T) {
	from := samples.New(206)
	for range 200 {
		o, version := anyone(from), 1+from.Below(255)
		v := o.vault(t, version)
		for n := 16; n <= 19; n++ {
			s := from.Card(n)
			token := o.token(t, version, s)
			isToken(t, v, s, token)
			comesBack(t, v, token, s, token)
			isToken(t, v, s, token)
		}
	}
}

// A vault takes the tokens of all versions up to its own, whichever it began with.
func TestAllVersions(t *testing.T) {
	from := samples.New(207)
	o := anyone(from)
	for _, begin := range []int{1, 2, 100, 254, 255} {
		v := o.vault(t, begin)
		for {
			s := from.Card(16 + from.Below(4))
			now := o.token(t, v.Version(), s)
			isToken(t, v, s, now)
			for _, version := range []int{1, 1 + from.Below(v.Version()), v.Version()} {
				comesBack(t, v, o.token(t, version, s), s, now)
			}
			if v.Version() == 255 {
				break
			}
			rotated(t, v, v.Version()+1)
		}
		s := from.Card(16)
		last := o.token(t, 255, s)
		for version := 1; version <= 255; version++ {
			comesBack(t, v, o.token(t, version, s), s, last)
		}
	}
}

func TestNoCardNumbers(t *testing.T) {
	from := samples.New(208)
	v := anyone(from).vault(t, 3)
	wrong := append(misshaped(), "4111111111111112", "1411111111111111", "79927398713", "18", "378282246310005", "00000000000000000000", "4111111111111111.1", "4111111111111111.3")
	for range 50 {
		for n := 16; n <= 19; n++ {
			s := from.Card(n)
			for d := range 10 {
				if other := s[:n-1] + fmt.Sprint(d); other != s {
					wrong = append(wrong, other)
				}
			}
			token, _ := v.Token(s)
			wrong = append(wrong, token, pan.Mask(s), pan.Mask(token), s+"\n", "0"+s+"0000")
		}
	}
	for _, s := range wrong {
		if token, err := v.Token(s); token != "" || err != api.ErrPan {
			t.Errorf("Token(%.60q): %q, %d", s, token, err)
		}
	}
}

// What isn't a token is named ahead of its version.
func TestNoTokens(t *testing.T) {
	from := samples.New(209)
	o := anyone(from)
	for _, version := range []int{1, 7, 255} {
		v := o.vault(t, version)
		s := from.Card(16)
		token := o.token(t, 1, s)
		x := token[:16]
		for _, other := range append(misshaped(), s, x, x+".", x+",1", x+"1", pan.Mask(token), token+" ", " "+token, token+".1", token+"\x00", "."+token) {
			noBack(t, v, other, api.ErrToken)
		}
		for _, behind := range []string{"0", "00", "01", "001", "07", "0255", "256", "257", "999", "1000", "-1", "+1", " 1", "1 ", "x", "0x1", "1.1", "1e0", "18446744073709551617", "9223372036854775807", "\u0661", strings.Repeat("1", 1000)} {
			noBack(t, v, x+"."+behind, api.ErrToken)
		}
		for _, other := range misshaped() {
			noBack(t, v, other+".1", api.ErrToken)
			noBack(t, v, other+".255", api.ErrToken)
		}
	}
}

// A version that the vault hasn't yet is named ahead of what the token would come back as.
func TestLaterVersions(t *testing.T) {
	from := samples.New(210)
	o := anyone(from)
	v := o.vault(t, 1)
	for {
		now := v.Version()
		for _, version := range []int{now + 1, now + 2, 255} {
			if version <= now || version > 255 {
				continue
			}
			s := from.Card(16 + from.Below(4))
			noBack(t, v, o.token(t, version, s), api.ErrVersion)
			noBack(t, v, o.token(t, version, invalid(s)), api.ErrVersion)
			noBack(t, v, fmt.Sprintf("%s.%d", from.Digits(16+from.Below(4)), version), api.ErrVersion)
		}
		if now == 255 {
			break
		}
		s := from.Card(17)
		next := o.token(t, now+1, s)
		noBack(t, v, next, api.ErrVersion)
		no := o.token(t, now+1, invalid(s))
		noBack(t, v, no, api.ErrVersion)
		rotated(t, v, now+1)
		comesBack(t, v, next, s, next)
		noBack(t, v, no, api.ErrToken)
	}
}

// Nine of ten well-shaped strings come from none that is a card number.
func TestBackOfAnyTokens(t *testing.T) {
	from := samples.New(211)
	cards, others := 0, 0
	for range 100 {
		o, now := anyone(from), 1+from.Below(255)
		v := o.vault(t, now)
		for range 30 {
			x, version := from.Digits(16+from.Below(4)), 1+from.Below(now)
			token := fmt.Sprintf("%s.%d", x, version)
			s := o.origin(t, version, x)
			if samples.LuhnSum(s)%10 == 0 {
				comesBack(t, v, token, s, o.token(t, now, s))
				cards++
			} else {
				noBack(t, v, token, api.ErrToken)
				others++
			}
		}
	}
	if cards < 150 || others < 1500 {
		t.Errorf("only %d and %d tokens were tried", cards, others)
	}
}

// The encrypted form may be a card number by chance; that tells nothing of the string that it comes from.
func TestBackAsksTheResultNotTheToken(t *testing.T) {
	from := samples.New(212)
	o := anyone(from)
	v := o.vault(t, 2)
	valid := 0
	for range 3000 {
		x := from.Card(16)
		if s := o.origin(t, 1, x); samples.LuhnSum(s)%10 == 0 {
			comesBack(t, v, x+".1", s, o.token(t, 2, s))
			valid++
		} else {
			noBack(t, v, x+".1", api.ErrToken)
		}
	}
	if valid == 0 || valid == 3000 {
		t.Errorf("%d of 3000 come from card numbers", valid)
	}
}

// Another tenant, another master key and another version bring a token back as something else, or not at all.
func TestTokensOfOthers(t *testing.T) {
	from := samples.New(213)
	for range 100 {
		mine := anyone(from)
		other := owner{mine.master, mine.tenant%64 + 1}
		foreign := owner{bytes.Clone(mine.master), mine.tenant}
		foreign.master[from.Below(len(foreign.master))] ^= 1 << from.Below(8)
		s := from.Card(19)
		token := mine.token(t, 1, s)
		for _, o := range []owner{other, foreign} {
			v := o.vault(t, 5)
			if got, err := v.Token(s); got == token || err != api.OK {
				t.Errorf("two vaults have the token %q, %d", got, err)
			}
			if got, err := v.Back(token); got == s {
				t.Errorf("Back(%q) of another vault: %q, %d", token, got, err)
			}
		}
		if got, err := mine.vault(t, 5).Back(token[:20] + "2"); got == s {
			t.Errorf("Back of a token with another version: %q, %d", got, err)
		}
	}
}

// Errors leave the version and the tokens as they were.
func TestErrorsChangeNothing(t *testing.T) {
	from := samples.New(214)
	o := anyone(from)
	v := o.vault(t, 9)
	for range 100 {
		s := from.Card(16 + from.Below(4))
		v.Token(s[1:])
		v.Token(s + ".9")
		noBack(t, v, s+".10", api.ErrVersion)
		noBack(t, v, s+".0", api.ErrToken)
		if v.Version() != 9 {
			t.Fatalf("version %d", v.Version())
		}
		isToken(t, v, s, o.token(t, 9, s))
	}
}

// P14.3: arguments and results.

func TestMastersAreNeitherModifiedNorRetained(t *testing.T) {
	from := samples.New(215)
	for size := range 80 {
		master, whole := samples.Framed(from.Bytes(size))
		o, before := owner{bytes.Clone(master), 1 + from.Below(64)}, bytes.Clone(whole)
		v, err := New(master, o.tenant, 1)
		s := from.Card(16)
		if err == api.OK {
			isToken(t, v, s, o.token(t, 1, s))
		}
		if !bytes.Equal(whole, before) {
			t.Fatalf("New of %d bytes modified its argument", size)
		}
		samples.Spoil(master)
		if err == api.OK {
			isToken(t, v, s, o.token(t, 1, s))
			rotated(t, v, 2)
			isToken(t, v, s, o.token(t, 2, s))
		}
	}
}

// lent returns a string in memory that can be overwritten.
func lent(s string) (string, []byte) {
	b := []byte(s)
	return unsafe.String(&b[0], len(b)), b
}

func TestStringsAreNeitherModifiedNorRetained(t *testing.T) {
	from := samples.New(216)
	for n := 16; n <= 19; n++ {
		for range 20 {
			o := anyone(from)
			v := o.vault(t, 2)
			s := from.Card(n)
			first, token := o.token(t, 1, s), o.token(t, 2, s)
			for range 2 {
				for _, c := range []struct {
					call     func(string) (string, api.Errno)
					argument string
					want     string
				}{{v.Token, s, token}, {v.Back, first, s}, {v.Back, token, s}, {v.Renew, first, token}, {v.Renew, token, token}} {
					argument, memory := lent(c.argument)
					got, err := c.call(argument)
					if argument != c.argument {
						t.Fatalf("%q became %q", c.argument, argument)
					}
					samples.Spoil(memory)
					if got != c.want || err != api.OK {
						t.Fatalf("of %q: %q, %d; want %q", c.argument, got, err, c.want)
					}
				}
			}
		}
	}
}

// Two calls share the memory of no result.
func TestResultsAreNewMemory(t *testing.T) {
	from := samples.New(217)
	o := anyone(from)
	v := o.vault(t, 2)
	s := from.Card(16)
	token := o.token(t, 1, s)
	for name, call := range map[string]func() (string, api.Errno){
		"Token": func() (string, api.Errno) { return v.Token(s) },
		"Back":  func() (string, api.Errno) { return v.Back(token) },
		"Renew": func() (string, api.Errno) { return v.Renew(token) },
	} {
		first, _ := call()
		second, _ := call()
		if first != second || unsafe.StringData(first) == unsafe.StringData(second) {
			t.Errorf("%s: %q and %q", name, first, second)
		}
	}
}

func TestVaultsOfOneOwnerShareNothing(t *testing.T) {
	from := samples.New(218)
	o := anyone(from)
	v, other := o.vault(t, 1), o.vault(t, 1)
	s := from.Card(16)
	isToken(t, v, s, o.token(t, 1, s))
	isToken(t, other, s, o.token(t, 1, s))
	samples.Spoil(v.ciphers[0].key)
	rotated(t, v, 2)
	if other.Version() != 1 {
		t.Errorf("version %d", other.Version())
	}
	isToken(t, other, s, o.token(t, 1, s))
	noBack(t, other, o.token(t, 2, s), api.ErrVersion)
}

// P14.4: the way back.

func TestTokensComeBack(t *testing.T) {
	from := samples.New(219)
	for range 20 {
		v := anyone(from).vault(t, 1+from.Below(246))
		origins := map[string]string{}
		for {
			for range 5 {
				s := from.Card(16 + from.Below(4))
				token, err := v.Token(s)
				if err != api.OK {
					t.Fatalf("Token(%q): %d", s, err)
				}
				origins[token] = s
			}
			for token, s := range origins {
				got, err := v.Back(token)
				if got != s || err != api.OK {
					t.Fatalf("Back(%q): %q, %d; want %q", token, got, err, s)
				}
				again, err := v.Token(got)
				if old := !strings.HasSuffix(token, fmt.Sprintf(".%d", v.Version())); old == (again == token) || err != api.OK {
					t.Fatalf("Token of Back(%q) in version %d: %q, %d", token, v.Version(), again, err)
				}
				if renewed, err := v.Renew(token); renewed != again || err != api.OK {
					t.Fatalf("Renew(%q): %q, %d; want %q", token, renewed, err, again)
				}
			}
			if len(origins) >= 50 {
				break
			}
			if version, err := v.Rotate(); err != api.OK {
				t.Fatalf("Rotate: %d, %d", version, err)
			}
		}
	}
}

// P14.5: different card numbers have different tokens, of the same form.

// Under one version and one tweak: every tenth middle has the right check digit.
func TestDifferentCardNumbersHaveDifferentTokens(t *testing.T) {
	v := anyone(samples.New(220)).vault(t, 4)
	origins := map[string]string{}
	for middle := range 30000 {
		s := fmt.Sprintf("411111%06d1111", middle*33)
		token, err := v.Token(s)
		if !pan.Is(s) {
			continue
		}
		if there, double := origins[token]; double || err != api.OK {
			t.Fatalf("%q and %q have the token %q, %d", there, s, token, err)
		}
		origins[token] = s
	}
	if len(origins) < 2500 {
		t.Errorf("only %d card numbers were tried", len(origins))
	}
}

func TestFormsOfTokens(t *testing.T) {
	from := samples.New(221)
	o := anyone(from)
	v := o.vault(t, 1)
	for {
		for n := 16; n <= 19; n++ {
			s := from.Card(n)
			token, err := v.Token(s)
			x, version, bad := pan.Split(token)
			if err != api.OK || bad != api.OK || version != v.Version() {
				t.Fatalf("Token(%q) in version %d: %q, %d", s, v.Version(), token, err)
			}
			if len(x) != n || x[:6] != s[:6] || x[n-4:] != s[n-4:] || pan.Mask(x) != pan.Mask(s) || pan.Mask(token) != fmt.Sprintf("%s.%d", pan.Mask(s), version) {
				t.Fatalf("Token(%q): %q", s, token)
			}
		}
		if v.Version() == 255 {
			return
		}
		rotated(t, v, v.Version()+1)
	}
}

// The ways: once for each version, counted for several goroutines.

// Once a version has its cipher, the ring is asked no more for it; those of others are still to come.
func TestTheCipherIsCreatedOnceForEachVersion(t *testing.T) {
	from := samples.New(222)
	first, second := anyone(from), anyone(from)
	v := first.vault(t, 255)
	s := from.Card(16)
	for version := 1; version <= 255; version += 2 {
		comesBack(t, v, first.token(t, version, s), s, first.token(t, 255, s))
	}
	v.ring, v.tenant = second.vault(t, 1).ring, second.tenant
	for version := 1; version <= 255; version++ {
		o := first
		if version%2 == 0 {
			o = second
		}
		comesBack(t, v, o.token(t, version, s), s, first.token(t, 255, s))
	}
}

// What is refused creates no cipher.
func TestRefusalsCreateNoCipher(t *testing.T) {
	v := anyone(samples.New(223)).vault(t, 3)
	v.Token("4111111111111112")
	v.Back("4111111111111111.4")
	v.Renew("4111111111111111.0")
	v.Rotate()
	for i := range v.ciphers {
		if v.ciphers[i].key != nil {
			t.Errorf("a cipher of version %d", i+1)
		}
	}
}

// Each version goes to one call.
func TestSeveralGoroutinesRotate(t *testing.T) {
	from := samples.New(224)
	for range 200 {
		v := anyone(from).vault(t, 1)
		var ready atomic.Int64
		var answers [8][40]int
		var group sync.WaitGroup
		for i := range answers {
			group.Go(func() {
				// All begin at once: a goroutine alone is soon at the end.
				for ready.Add(1); ready.Load() < int64(len(answers)); {
					runtime.Gosched()
				}
				for j := range answers[i] {
					version, err := v.Rotate()
					if err != api.OK && (err != api.ErrFull || version != 0) {
						t.Errorf("Rotate: %d, %d", version, err)
					}
					answers[i][j] = version
				}
			})
		}
		group.Wait()
		var counts [256]int
		for _, some := range answers {
			for _, version := range some {
				counts[version]++
			}
		}
		want := [256]int{0: 8*40 - 254}
		for version := 2; version <= 255; version++ {
			want[version] = 1
		}
		if counts != want || v.Version() != 255 {
			t.Fatalf("the versions 0 to 255 were answered %d times each, and then %d", counts, v.Version())
		}
	}
}

func TestSeveralGoroutinesUseAVault(t *testing.T) {
	from := samples.New(225)
	for range 10 {
		o := anyone(from)
		v := o.vault(t, 1)
		s := from.Card(16 + from.Below(4))
		var tokens [256]string
		for version := 1; version <= 255; version++ {
			tokens[version] = o.token(t, version, s)
		}
		var group sync.WaitGroup
		for range 12 {
			group.Go(func() {
				for range 20 {
					before := v.Version()
					token, err := v.Token(s)
					_, version, bad := pan.Split(token)
					if err != api.OK || bad != api.OK || version < before || version > v.Version() || token != tokens[version] {
						t.Errorf("Token(%q): %q, %d", s, token, err)
					}
					v.Rotate()
					if got, err := v.Back(token); got != s || err != api.OK {
						t.Errorf("Back(%q): %q, %d", token, got, err)
					}
					renewed, err := v.Renew(token)
					if _, version, _ := pan.Split(renewed); err != api.OK || renewed != tokens[version] {
						t.Errorf("Renew(%q): %q, %d", token, renewed, err)
					}
				}
			})
		}
		group.Wait()
	}
}
