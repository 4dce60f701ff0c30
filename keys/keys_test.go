package keys

import (
	"bytes"
	"crypto/hmac"
	"crypto/sha256"
	"encoding/binary"
	"fmt"
	"sync"
	"testing"

	"moneyer/api"
	"moneyer/mac"
	"moneyer/samples"
)

// purposes are those that have a name, with it.
var purposes = map[int]string{api.KeyToken: "token", api.KeyStore: "store", api.KeyTag: "tag", api.KeyAudit: "audit"}

// slowFold follows the words of chapter 6, with Go's own packages.
func slowFold(key []byte, labels ...string) []byte {
	for _, label := range labels {
		h := hmac.New(sha256.New, key)
		h.Write(binary.BigEndian.AppendUint64(nil, uint64(len(label))))
		h.Write([]byte(label))
		key = h.Sum(nil)
	}
	return key
}

// slowKey follows the document's words; a key of nil stands for api.ErrArg.
func slowKey(master []byte, tenant, purpose, version int) []byte {
	if tenant < 1 || tenant > 64 || purpose < 1 || purpose > 4 || version < 1 || version > 255 {
		return nil
	}
	name := []string{"token", "store", "tag", "audit"}[purpose-1]
	return slowFold(master, "tenant", fmt.Sprint(tenant), name, "version", fmt.Sprint(version))
}

// made returns the ring of a master key that New has to take.
func made(t *testing.T, master []byte) *Ring {
	t.Helper()
	r, err := New(master)
	if r == nil || err != api.OK {
		t.Fatalf("New of %d bytes: %v, %d", len(master), r, err)
	}
	return r
}

// isKey asks that Key answers what the document's words ask.
func isKey(t *testing.T, r *Ring, master []byte, tenant, purpose, version int) {
	t.Helper()
	want, wantErr := slowKey(master, tenant, purpose, version), api.OK
	if want == nil {
		wantErr = api.ErrArg
	}
	k, err := r.Key(tenant, purpose, version)
	if !bytes.Equal(k, want) || err != wantErr {
		t.Fatalf("Key(%d, %d, %d) of % x: %x, %d; want %x, %d", tenant, purpose, version, master, k, err, want, wantErr)
	}
}

// P13.1: Name.

func TestNames(t *testing.T) {
	for _, c := range []struct {
		purpose int
		name    string
	}{
		{api.KeyToken, "token"}, {api.KeyStore, "store"}, {api.KeyTag, "tag"}, {api.KeyAudit, "audit"},
		{1, "token"}, {2, "store"}, {3, "tag"}, {4, "audit"},
	} {
		if name, known := Name(c.purpose); name != c.name || !known {
			t.Errorf("Name(%d): %q, %t; want %q", c.purpose, name, known, c.name)
		}
	}
}

func TestOtherNumbersHaveNoName(t *testing.T) {
	wrong := []int{api.MinInt, api.MinInt + 1, api.MinInt + 4, -1 << 32, 1<<32 + 1, 1<<8 + 1, 1<<16 + 2, api.MaxInt - 1, api.MaxInt}
	for n := range 1000 {
		wrong = append(wrong, -n, n+5)
	}
	for _, purpose := range wrong {
		if name, known := Name(purpose); name != "" || known {
			t.Errorf("Name(%d): %q, %t", purpose, name, known)
		}
	}
}

// P13.2: New.

func TestNewTakesMastersOf16To64Bytes(t *testing.T) {
	from := samples.New(183)
	for size := range 300 {
		master := from.Bytes(size)
		r, err := New(master)
		if right := size >= 16 && size <= 64; right != (r != nil) || right != (err == api.OK) || !right && err != api.ErrArg {
			t.Errorf("New of %d bytes: %v, %d", size, r, err)
		}
	}
	for _, master := range [][]byte{nil, {}, make([]byte, 64)[:15], make([]byte, 80)[:65], make([]byte, 1<<16), make([]byte, 1<<24)} {
		if r, err := New(master); r != nil || err != api.ErrArg {
			t.Errorf("New of %d bytes: %v, %d", len(master), r, err)
		}
	}
}

// P13.2: Key.

func TestKnownKeys(t *testing.T) {
	for _, c := range []struct {
		master                   string
		tenant, purpose, version int
		want                     string
	}{
		{"0123456789abcdef", 12, api.KeyAudit, 3, "bec5f2462d89bd9baf4835a3236ea726980c2e62e531c0f3488141884292664a"},
		{"0123456789abcdef", 1, api.KeyToken, 1, "bbc51a1718af5694ac31411a572110b0bf491886682ae2f378c546ac0f348cf6"},
		{"0123456789abcdef0123456789abcdef0123456789abcdef0123456789abcdef", 64, api.KeyStore, 255, "2f7ce6e857d58a696cb2967fac11bb19c4bf15d1b9b7324aeb33c2fe080107ad"},
		{"0123456789abcdef0123456789abcdef", 9, api.KeyTag, 10, "1a62ddfef4e54a8bdfdb3a925d2d6f16f07490cbfea8a3f031932448996e292b"},
	} {
		k, err := made(t, []byte(c.master)).Key(c.tenant, c.purpose, c.version)
		if !bytes.Equal(k, samples.Hex(c.want)) || err != api.OK {
			t.Errorf("Key(%d, %d, %d) of %q: %x, %d; want %s", c.tenant, c.purpose, c.version, c.master, k, err, c.want)
		}
	}
}

func TestKeysAreFoldsByTheDocumentsLabels(t *testing.T) {
	master := []byte("0123456789abcdef")
	r := made(t, master)
	for _, c := range []struct {
		tenant, purpose, version int
		labels                   []string
	}{
		{1, api.KeyToken, 1, []string{"tenant", "1", "token", "version", "1"}},
		{9, api.KeyStore, 9, []string{"tenant", "9", "store", "version", "9"}},
		{10, api.KeyTag, 10, []string{"tenant", "10", "tag", "version", "10"}},
		{12, api.KeyAudit, 3, []string{"tenant", "12", "audit", "version", "3"}},
		{63, api.KeyToken, 99, []string{"tenant", "63", "token", "version", "99"}},
		{64, api.KeyAudit, 100, []string{"tenant", "64", "audit", "version", "100"}},
		{64, api.KeyStore, 255, []string{"tenant", "64", "store", "version", "255"}},
	} {
		k, err := r.Key(c.tenant, c.purpose, c.version)
		if want := mac.Fold(master, c.labels...); !bytes.Equal(k, want) || err != api.OK {
			t.Errorf("Key(%d, %d, %d): %x, %d; want %x", c.tenant, c.purpose, c.version, k, err, want)
		}
	}
}

// All that there are, and some beyond each end.
func TestAllKeys(t *testing.T) {
	master := samples.New(184).Bytes(32)
	r := made(t, master)
	for tenant := -1; tenant <= 66; tenant++ {
		for purpose := -1; purpose <= 6; purpose++ {
			for version := -1; version <= 257; version++ {
				isKey(t, r, master, tenant, purpose, version)
			}
		}
	}
}

func TestKeysOfMastersOfAllSizes(t *testing.T) {
	from := samples.New(185)
	for size := 16; size <= 64; size++ {
		for range 3 {
			master := from.Bytes(size)
			r := made(t, master)
			for range 10 {
				isKey(t, r, master, 1+from.Below(64), 1+from.Below(4), 1+from.Below(255))
			}
		}
	}
}

// Among them are masters that look like the padding and the masks of a tag's key.
func TestMastersAreTakenAsTheyAre(t *testing.T) {
	for _, master := range [][]byte{make([]byte, 16), make([]byte, 64), bytes.Repeat([]byte{0xff}, 64), bytes.Repeat([]byte{0x36}, 40), []byte("\x00\x01ümlaut \xff\xfe and more")} {
		r := made(t, master)
		isKey(t, r, master, 1, api.KeyToken, 1)
		isKey(t, r, master, 64, api.KeyAudit, 255)
	}
}

func TestWrongNumbers(t *testing.T) {
	master := samples.New(186).Bytes(20)
	r := made(t, master)
	wrong := []int{api.MinInt, api.MinInt + 1, -1 << 32, -256, -65, -1, 0, 1 << 16, 1<<32 + 1, 1<<63 - 64, api.MaxInt}
	for _, n := range append(wrong, 65, 66, 128, 255, 256, 257) {
		isKey(t, r, master, n, api.KeyToken, 1)
	}
	for _, n := range append(wrong, 5, 6, 7, 8, 255, 256, 257) {
		isKey(t, r, master, 1, n, 1)
	}
	for _, n := range append(wrong, 256, 257, 258, 511, 512) {
		isKey(t, r, master, 1, api.KeyToken, n)
	}
	for _, n := range wrong {
		isKey(t, r, master, n, n, n)
	}
	// A refusal leaves nothing behind that later keys would show.
	for tenant := 1; tenant <= 64; tenant++ {
		isKey(t, r, master, tenant, api.KeyStore, tenant)
	}
}

func TestAnyNumbers(t *testing.T) {
	from := samples.New(187)
	master := from.Bytes(64)
	r := made(t, master)
	number := func(most int) int {
		switch from.Below(8) {
		case 0:
			return from.Number()
		case 1:
			return -from.Number()
		}
		return from.Below(most + 3)
	}
	for range 5000 {
		isKey(t, r, master, number(64), number(4), number(255))
	}
}

// Neither the order of calls nor other rings matter.
func TestKeysDependOnTheRingsMasterAlone(t *testing.T) {
	from := samples.New(188)
	masters := [][]byte{from.Bytes(16), from.Bytes(33), from.Bytes(64)}
	var rings []*Ring
	for _, master := range masters {
		rings = append(rings, made(t, master), made(t, master))
	}
	for range 1000 {
		i := from.Below(len(rings))
		isKey(t, rings[i], masters[i/2], from.Below(66), from.Below(6), from.Below(257))
	}
}

func TestDifferentNumbersHaveDifferentKeys(t *testing.T) {
	r := made(t, samples.New(189).Bytes(48))
	seen := map[string]string{}
	for tenant := 1; tenant <= api.MaxTenants; tenant++ {
		for purpose := range purposes {
			for _, version := range []int{1, 2, 3, 9, 10, 11, 12, 21, 99, 100, 111, 112, 121, 211, 254, 255} {
				k, err := r.Key(tenant, purpose, version)
				if len(k) != 32 || err != api.OK {
					t.Fatalf("Key(%d, %d, %d): %x, %d", tenant, purpose, version, k, err)
				}
				here := fmt.Sprint(tenant, purpose, version)
				if there, double := seen[string(k)]; double {
					t.Fatalf("%s and %s have the key %x", there, here, k)
				}
				seen[string(k)] = here
			}
		}
	}
}

// P13.3: arguments, results, goroutines.

func TestMastersAreNeitherModifiedNorRetained(t *testing.T) {
	from := samples.New(190)
	for size := range 80 {
		master, whole := samples.Framed(from.Bytes(size))
		kept, before := bytes.Clone(master), bytes.Clone(whole)
		r, err := New(master)
		if err == api.OK {
			isKey(t, r, kept, 1, api.KeyToken, 1)
		}
		if !bytes.Equal(whole, before) {
			t.Fatalf("New of %d bytes modified its argument", size)
		}
		samples.Spoil(master)
		if err == api.OK {
			isKey(t, r, kept, 1, api.KeyToken, 2)
			isKey(t, r, kept, 2, api.KeyToken, 1)
		}
	}
}

func TestResultsAreNewMemory(t *testing.T) {
	master := samples.New(191).Bytes(32)
	r := made(t, master)
	for range 3 {
		for tenant := 1; tenant <= api.MaxTenants; tenant += 21 {
			for purpose := range purposes {
				first, _ := r.Key(tenant, purpose, 7)
				second, _ := r.Key(tenant, purpose, 7)
				samples.Spoil(first)
				if !bytes.Equal(second, slowKey(master, tenant, purpose, 7)) {
					t.Fatalf("Key(%d, %d, 7): two results share memory", tenant, purpose)
				}
				samples.Spoil(second)
				isKey(t, r, master, tenant, purpose, 7)
			}
		}
	}
}

func TestRingsOfOneMasterShareNothing(t *testing.T) {
	master := samples.New(192).Bytes(32)
	r, other := made(t, master), made(t, master)
	samples.Spoil(r.master)
	for tenant := range r.tenants {
		samples.Spoil(r.tenants[tenant].key[:])
	}
	for tenant := 1; tenant <= api.MaxTenants; tenant++ {
		isKey(t, other, master, tenant, api.KeyToken, 1)
	}
}

func TestSeveralGoroutinesUseARing(t *testing.T) {
	from := samples.New(193)
	for range 20 {
		master := from.Bytes(16 + from.Below(49))
		r := made(t, master)
		var group sync.WaitGroup
		for i := range 16 {
			group.Go(func() {
				for j := range 12 {
					// All begin with the same tenants, so that they meet there.
					tenant, purpose, version := 1+j%6, 1+(i+j)%4, 1+16*i+j
					k, err := r.Key(tenant, purpose, version)
					if !bytes.Equal(k, slowKey(master, tenant, purpose, version)) || err != api.OK {
						t.Errorf("goroutine %d: Key(%d, %d, %d): %x, %d", i, tenant, purpose, version, k, err)
					}
					if k, err := r.Key(0, purpose, version); k != nil || err != api.ErrArg {
						t.Errorf("goroutine %d: Key(0, %d, %d): %x, %d", i, purpose, version, k, err)
					}
				}
			})
		}
		group.Wait()
	}
}

// P13.4: the key that a tenant's keys are derived from.

func TestKeysAreDerivedFromTheTenantsKey(t *testing.T) {
	from := samples.New(194)
	for range 5 {
		master := from.Bytes(16 + from.Below(49))
		r := made(t, master)
		for tenant := 1; tenant <= api.MaxTenants; tenant++ {
			beginning := mac.Fold(master, "tenant", fmt.Sprint(tenant))
			for purpose, name := range purposes {
				version := 1 + from.Below(255)
				k, err := r.Key(tenant, purpose, version)
				if want := mac.Fold(beginning, name, "version", fmt.Sprint(version)); !bytes.Equal(k, want) || err != api.OK {
					t.Fatalf("Key(%d, %d, %d): %x, %d; want %x", tenant, purpose, version, k, err, want)
				}
			}
		}
	}
}

// Once a tenant's beginning is there, the master key is asked no more for it; those of others are still to come.
func TestTheBeginningIsComputedOnceForEachTenant(t *testing.T) {
	from := samples.New(195)
	master, later := from.Bytes(32), from.Bytes(32)
	r := made(t, master)
	for tenant := 1; tenant <= api.MaxTenants; tenant += 2 {
		isKey(t, r, master, tenant, api.KeyToken, 1)
	}
	copy(r.master, later)
	for tenant := 1; tenant <= api.MaxTenants; tenant++ {
		origin := master
		if tenant%2 == 0 {
			origin = later
		}
		for purpose := range purposes {
			isKey(t, r, origin, tenant, purpose, 1)
			isKey(t, r, origin, tenant, purpose, 255)
		}
	}
}

// A refusal computes nothing.
func TestRefusalsComputeNoBeginning(t *testing.T) {
	r := made(t, samples.New(196).Bytes(32))
	for tenant := -1; tenant <= 66; tenant++ {
		r.Key(tenant, 0, 1)
		r.Key(tenant, 5, 1)
		r.Key(tenant, api.KeyToken, 0)
		r.Key(tenant, api.KeyToken, 256)
	}
	for i := range r.tenants {
		if r.tenants[i].key != [32]byte{} {
			t.Errorf("a beginning of tenant %d", i+1)
		}
	}
}
