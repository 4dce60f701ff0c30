package tenant

import (
	"bytes"
	"fmt"
	"slices"
	"strconv"
	"strings"
	"testing"
	"unsafe"

	"moneyer/api"
	"moneyer/iso"
	"moneyer/samples"
	"moneyer/vault"
)

// The document's numbers, written down a second time.
const (
	maxTick   = 1 << 40
	maxAmount = 999999999999
	maxTotal  = 5000000000000
	maxPosts  = 24
	maxRoutes = 24
	maxCards  = 16
	approved  = 1
	reversed  = 2
)

// visa is a card number, and the route to it in most tests is {"4", 7}.
const visa = "4111111111111111"

// wide is a rule that permits almost everything.
var wide = api.Rule{Ticks: 10, Times: maxAmount, Sum: maxAmount, Once: maxAmount}

// owner is whom a tenant is for: what its tokens depend on beside the version.
type owner struct {
	master []byte
	number int
}

// someone is an owner like another.
var someone = owner{[]byte("0123456789abcdef"), 1}

// anyone yields owners.
func anyone(from *samples.Source) owner {
	return owner{from.Bytes(16 + from.Below(49)), 1 + from.Below(64)}
}

// tenant returns an owner's new tenant, which New has to make.
func (o owner) tenant(t *testing.T) *Tenant {
	t.Helper()
	x, err := New(o.master, o.number)
	if x == nil || err != api.OK {
		t.Fatalf("New(% x, %d): %v, %d", o.master, o.number, x, err)
	}
	return x
}

// open returns an owner's new tenant with the route {"4", 7} and a rule.
func (o owner) open(t *testing.T, r api.Rule) *Tenant {
	t.Helper()
	x := o.tenant(t)
	ok(t, x.PutRoute("4", 7))
	ok(t, x.SetRule(r))
	return x
}

// token returns the token of a card number under a version.
func (o owner) token(t *testing.T, version int, number string) string {
	t.Helper()
	v, err := vault.New(o.master, o.number, version)
	if err != api.OK {
		t.Fatalf("vault.New: %d", err)
	}
	token, err := v.Token(number)
	if err != api.OK {
		t.Fatalf("Token(%q): %d", number, err)
	}
	return token
}

// card returns what the limits know a card number by, whatever the version.
func (o owner) card(t *testing.T, number string) string {
	t.Helper()
	return strings.TrimSuffix(o.token(t, 1, number), ".1")
}

// ok asks for no error.
func ok(t *testing.T, err api.Errno) {
	t.Helper()
	if err != api.OK {
		t.Fatalf("error %d", err)
	}
}

// numbers returns n card numbers that differ only in their middles.
func numbers(n int) []string {
	var list []string
	for middle := 0; len(list) < n; middle++ {
		if s := fmt.Sprintf("411111%06d1111", middle); samples.LuhnSum(s)%10 == 0 {
			list = append(list, s)
		}
	}
	return list
}

// message returns one.
func message(kind string, fields ...api.Field) api.Message {
	return api.Message{Type: kind, Fields: fields}
}

// sale returns a request or an advice.
func sale(kind, number string, amount int, trace string) api.Message {
	return message(kind, api.Field{N: 2, Value: number}, api.Field{N: 4, Value: fmt.Sprintf("%012d", amount)}, api.Field{N: 11, Value: trace}, api.Field{N: 41, Value: "TERM0001"})
}

// undo returns a reversal.
func undo(kind, trace string) api.Message {
	return message(kind, api.Field{N: 41, Value: "TERM0001"}, api.Field{N: 90, Value: "0100" + trace + strings.Repeat("0", 32)})
}

// trace returns one of six digits.
func trace(n int) string {
	return fmt.Sprintf("%06d", n)
}

// without returns a message that lacks a field.
func without(m api.Message, field int) api.Message {
	return message(m.Type, slices.DeleteFunc(slices.Clone(m.Fields), func(f api.Field) bool { return f.N == field })...)
}

// with returns a message in which a field has a value.
func with(m api.Message, field int, value string) api.Message {
	return iso.Put(m, field, value)
}

// everything returns a valid message with all fields.
func everything(kind string) api.Message {
	values := map[int]string{2: visa, 4: "000000000060", 11: "000001", 41: "TERM0001", 90: "0100000001" + strings.Repeat("0", 32)}
	m := message(kind)
	for n := range 129 {
		if _, size, is := iso.Format(n); is && values[n] == "" {
			m.Fields = append(m.Fields, api.Field{N: n, Value: strings.Repeat("1", size)})
		} else if is {
			m.Fields = append(m.Fields, api.Field{N: n, Value: values[n]})
		}
	}
	return m
}

// reply returns the answer to a message as the document words it; a token and its target are in an approving one.
func reply(m api.Message, code, target, token string) api.Message {
	a := message(fmt.Sprintf("%04d", decimal(m.Type)+10))
	for n := range 129 {
		value := ""
		switch n {
		case 3, 4, 11, 41, 70:
			for _, f := range m.Fields {
				if f.N == n {
					value = f.Value
				}
			}
		case 32:
			value = target
		case 39:
			value = code
		case 48:
			value = token
		}
		if value != "" {
			a.Fields = append(a.Fields, api.Field{N: n, Value: value})
		}
	}
	return a
}

// refused is the answer to a message of a wrong type or form.
func refused(code string) api.Message {
	return message("0000", api.Field{N: 39, Value: code})
}

// decimal returns the number of a text of digits.
func decimal(text string) int {
	n, err := strconv.Atoi(text)
	if err != nil {
		panic(err)
	}
	return n
}

// short returns a message as it is told when a test fails.
func short(m api.Message) string {
	text := fmt.Sprint(m)
	return text[:min(len(text), 400)]
}

// same tells whether two messages are.
func same(a, b api.Message) bool {
	return a.Type == b.Type && slices.Equal(a.Fields, b.Fields)
}

// answers asks Handle for an answer.
func answers(t *testing.T, x *Tenant, m api.Message, now int, want api.Message) {
	t.Helper()
	if got := x.Handle(m, now); !same(got, want) {
		t.Fatalf("Handle(%s, %d): %v; want %v", short(m), now, got, want)
	}
}

// changesNothing asks Handle for an answer, after which the tenant is the same.
func changesNothing(t *testing.T, x *Tenant, m api.Message, now int, want api.Message) {
	t.Helper()
	before := x.State()
	answers(t, x, m, now, want)
	if after := x.State(); !bytes.Equal(after, before) {
		t.Fatalf("Handle(%s, %d) changed % x to % x", short(m), now, before, after)
	}
}

// declines asks Handle for an answer of the message's type with a code alone.
func declines(t *testing.T, x *Tenant, m api.Message, now int, code string) {
	t.Helper()
	changesNothing(t, x, m, now, reply(m, code, "", ""))
}

// approves asks Handle for the approving answer, and then for the new post.
func approves(t *testing.T, x *Tenant, m api.Message, now int, target int, token string) {
	t.Helper()
	posts, total := x.Posts(), x.Total()
	answers(t, x, m, now, reply(m, "00", fmt.Sprint(target), token))
	amount := decimal(valueOf(m, 4))
	posts = append(posts, api.Post{Key: valueOf(m, 11) + valueOf(m, 41), Amount: amount, State: approved, Answer: fmt.Sprintf("00 %s %d %d", token, target, now)})
	if got := x.Posts(); !slices.Equal(got, posts) {
		t.Fatalf("Posts after %v: %v; want %v", m, got, posts)
	}
	if got := x.Total(); got != total+amount {
		t.Fatalf("Total after %v: %d; want %d", m, got, total+amount)
	}
}

// reverses asks Handle to reverse a post that was approved.
func reverses(t *testing.T, x *Tenant, m api.Message, now int, key string) {
	t.Helper()
	posts, total := x.Posts(), x.Total()
	at := slices.IndexFunc(posts, func(p api.Post) bool { return p.Key == key })
	if at < 0 || posts[at].State != approved {
		t.Fatalf("no approved post %q in %v", key, posts)
	}
	posts[at].State = reversed
	answers(t, x, m, now, reply(m, "00", "", ""))
	if got := x.Posts(); !slices.Equal(got, posts) {
		t.Fatalf("Posts after %v: %v; want %v", m, got, posts)
	}
	if got := x.Total(); got != total-posts[at].Amount {
		t.Fatalf("Total after %v: %d; want %d", m, got, total-posts[at].Amount)
	}
}

// valueOf returns the value of a field.
func valueOf(m api.Message, field int) string {
	value, _ := iso.Value(m, field)
	return value
}

// uses asks for the uses of a tenant.
func uses(t *testing.T, x *Tenant, want ...api.Use) {
	t.Helper()
	if got := decoded(t, x.State()).uses; !slices.Equal(got, want) {
		t.Fatalf("the uses are %v; want %v", got, want)
	}
}

// outside returns numbers that are less than least, or greater than most.
func outside(least, most int) []int {
	wrong := []int{api.MinInt, api.MinInt + 1, -1 << 40, -1 << 32, -maxAmount, 1 << 60, 1<<62 + 5, api.MaxInt - 1, api.MaxInt}
	for n := 1; n <= 20; n++ {
		wrong = append(wrong, least-n, most+n)
	}
	return wrong
}

// P18.1: New.

func TestNew(t *testing.T) {
	fresh := make([]byte, 64)
	fresh[7], fresh[15] = 1, 1
	for size := 16; size <= 64; size++ {
		for _, number := range []int{1, 2, size, 63, 64} {
			x := owner{make([]byte, size), number}.tenant(t)
			if x.Rule() != (api.Rule{Ticks: 1}) || x.Total() != 0 || len(x.Posts()) != 0 || !bytes.Equal(x.State(), fresh) {
				t.Fatalf("a master of %d bytes, tenant %d: % x", size, number, x.State())
			}
		}
	}
}

func TestNewRefusesWrongArguments(t *testing.T) {
	refusesNew := func(master []byte, number int) {
		t.Helper()
		if x, err := New(master, number); x != nil || err != api.ErrArg {
			t.Errorf("New of %d bytes, %d: %v, %d", len(master), number, x, err)
		}
		for _, b := range [][]byte{nil, []byte("x"), someone.tenant(t).State()} {
			if x, err := Load(master, number, b); x != nil || err != api.ErrArg {
				t.Errorf("Load of %d bytes, %d, % x: %v, %d", len(master), number, b, x, err)
			}
		}
	}
	for _, size := range []int{0, 1, 8, 14, 15, 65, 66, 128, 256 + 16, 1 << 16} {
		refusesNew(make([]byte, size), 1)
		refusesNew(make([]byte, size), 0)
	}
	refusesNew(nil, 1)
	refusesNew(make([]byte, 32)[:15], 1)
	for _, number := range append(outside(1, 64), 256+1, 1<<32+1) {
		refusesNew(someone.master, number)
	}
}

// A new tenant permits nothing: it has no route, and a rule without any transactions; what was decided elsewhere it takes.
func TestANewTenantPermitsNothing(t *testing.T) {
	for _, kind := range []string{"0100", "0200"} {
		x := someone.tenant(t)
		declines(t, x, sale(kind, visa, 0, "000001"), 0, "15")
		ok(t, x.PutRoute("4", 7))
		declines(t, x, sale(kind, visa, 0, "000001"), 0, "65")
		declines(t, x, sale(kind, visa, 1, "000001"), 0, "61")
	}
	for _, kind := range []string{"0120", "0220"} {
		x := someone.tenant(t)
		declines(t, x, sale(kind, visa, 0, "000001"), 0, "15")
		ok(t, x.PutRoute("4", 7))
		approves(t, x, sale(kind, visa, 1, "000001"), 0, 7, someone.token(t, 1, visa))
	}
}

// Tokens are those of the master key and the tenant alone.
func TestTenantsHaveTheirOwnTokens(t *testing.T) {
	from := samples.New(242)
	seen := map[string]bool{}
	for range 20 {
		o := anyone(from)
		approves(t, o.open(t, wide), sale("0100", visa, 1, "000001"), 3, 7, o.token(t, 1, visa))
		seen[o.token(t, 1, visa)] = true
	}
	if len(seen) < 20 {
		t.Errorf("20 tenants have %d tokens", len(seen))
	}
}

func TestTenantsShareNothing(t *testing.T) {
	x, other := someone.open(t, wide), someone.tenant(t)
	before := other.State()
	approves(t, x, sale("0100", visa, 5, "000001"), 3, 7, someone.token(t, 1, visa))
	x.Rotate()
	x.Handle(undo("0400", "000001"), 3)
	if !bytes.Equal(other.State(), before) {
		t.Errorf("% x became % x", before, other.State())
	}
}

// P18.3: the rule, the routes, the versions and the posts.

func TestSetRule(t *testing.T) {
	x := someone.tenant(t)
	for _, ticks := range []int{1, 2, 10, maxTick - 1, maxTick} {
		for _, n := range []int{0, 1, 100, maxAmount - 1, maxAmount} {
			for _, r := range []api.Rule{{Ticks: ticks, Times: n}, {Ticks: ticks, Sum: n}, {Ticks: ticks, Once: n}, {Ticks: ticks, Times: n, Sum: n, Once: n}} {
				ok(t, x.SetRule(r))
				if x.Rule() != r || decoded(t, x.State()).rule != r {
					t.Fatalf("SetRule(%v): %v", r, x.Rule())
				}
			}
		}
	}
}

func TestSetRuleRefusesWrongRules(t *testing.T) {
	r := api.Rule{Ticks: 10, Times: 2, Sum: 100, Once: 80}
	wrong := []api.Rule{{}, {Times: 1, Sum: 1, Once: 1}}
	for _, n := range outside(1, maxTick) {
		wrong = append(wrong, api.Rule{Ticks: n, Times: 2, Sum: 100, Once: 80})
	}
	for _, n := range outside(0, maxAmount) {
		wrong = append(wrong, api.Rule{Ticks: 10, Times: n, Sum: 100, Once: 80}, api.Rule{Ticks: 10, Times: 2, Sum: n, Once: 80}, api.Rule{Ticks: 10, Times: 2, Sum: 100, Once: n})
	}
	x := someone.open(t, r)
	before := x.State()
	for _, w := range wrong {
		if err := x.SetRule(w); err != api.ErrArg || x.Rule() != r || !bytes.Equal(x.State(), before) {
			t.Fatalf("SetRule(%v): %d, %v", w, err, x.Rule())
		}
	}
}

func TestRoutes(t *testing.T) {
	x := someone.tenant(t)
	isTable := func(want ...api.Route) {
		t.Helper()
		if got := decoded(t, x.State()).routes; !slices.Equal(got, want) {
			t.Fatalf("the routes are %v; want %v", got, want)
		}
	}
	fails := func(err, want api.Errno) {
		t.Helper()
		if err != want {
			t.Fatalf("error %d; want %d", err, want)
		}
	}
	isTable()
	ok(t, x.PutRoute("42", 99))
	ok(t, x.PutRoute("4", 1))
	ok(t, x.PutRoute("00000000", 2))
	ok(t, x.PutRoute("4", 3))
	table := []api.Route{{Prefix: "00000000", Target: 2}, {Prefix: "4", Target: 3}, {Prefix: "42", Target: 99}}
	isTable(table...)
	for _, prefix := range []string{"", "123456789", "x", "4x", " 4", "-1", "４"} {
		fails(x.PutRoute(prefix, 1), api.ErrArg)
		fails(x.DropRoute(prefix), api.ErrNone)
	}
	for _, target := range outside(1, 99) {
		fails(x.PutRoute("4", target), api.ErrArg)
		fails(x.PutRoute("5", target), api.ErrArg)
	}
	fails(x.DropRoute("41"), api.ErrNone)
	isTable(table...)
	for i := len(table); i < maxRoutes; i++ {
		ok(t, x.PutRoute(fmt.Sprint(100+i), 5))
	}
	fails(x.PutRoute("9", 1), api.ErrFull)
	fails(x.PutRoute("", 1), api.ErrArg)
	ok(t, x.PutRoute("42", 98))
	for i := len(table); i < maxRoutes; i++ {
		ok(t, x.DropRoute(fmt.Sprint(100+i)))
	}
	ok(t, x.DropRoute("4"))
	fails(x.DropRoute("4"), api.ErrNone)
	isTable(api.Route{Prefix: "00000000", Target: 2}, api.Route{Prefix: "42", Target: 98})
}

func TestRotate(t *testing.T) {
	x := someone.open(t, wide)
	for want := 2; want <= 255; want++ {
		if version, err := x.Rotate(); version != want || err != api.OK || decoded(t, x.State()).version != want {
			t.Fatalf("Rotate: %d, %d; want %d", version, err, want)
		}
		if want%50 == 5 {
			approves(t, x, sale("0100", visa, 1, trace(want)), 3, 7, someone.token(t, want, visa))
		}
	}
	before := x.State()
	for range 300 {
		if version, err := x.Rotate(); version != 0 || err != api.ErrFull || !bytes.Equal(x.State(), before) {
			t.Fatalf("Rotate: %d, %d", version, err)
		}
	}
}

func TestBack(t *testing.T) {
	from := samples.New(243)
	for range 20 {
		o := anyone(from)
		x := o.tenant(t)
		for version := 1; version <= 5; version++ {
			v, err := vault.New(o.master, o.number, version)
			ok(t, err)
			for _, s := range []string{from.Card(16), from.Card(17), from.Card(18), from.Card(19)} {
				for later := 1; later <= 7; later++ {
					token := o.token(t, later, s)
					want, wantErr := v.Back(token)
					got, err := x.Back(token)
					if got != want || err != wantErr || later <= version && got != s || later > version && err != api.ErrVersion {
						t.Fatalf("Back(%q) in version %d: %q, %d; want %q, %d", token, version, got, err, want, wantErr)
					}
				}
				// Most of these aren't those of a card number.
				loose := fmt.Sprintf("%s.%d", from.Digits(16+from.Below(4)), 1+from.Below(6))
				want, wantErr := v.Back(loose)
				if got, err := x.Back(loose); got != want || err != wantErr {
					t.Fatalf("Back(%q) in version %d: %q, %d; want %q, %d", loose, version, got, err, want, wantErr)
				}
			}
			for _, wrong := range []string{"", "x", visa, visa + ".", visa + ".0", visa + ".01", visa + ".256", visa + " .1", "4111.1", strings.Repeat("4", 1<<16)} {
				if got, err := x.Back(wrong); got != "" || err != api.ErrToken {
					t.Fatalf("Back(%.60q): %q, %d", wrong, got, err)
				}
			}
			x.Rotate()
		}
	}
}

func TestClose(t *testing.T) {
	x := someone.open(t, wide)
	token := someone.token(t, 1, visa)
	for range 3 {
		want := 0
		for i := range maxPosts {
			approves(t, x, sale("0120", visa, 100+i, trace(i)), 3, 7, token)
			if i%3 == 0 {
				reverses(t, x, undo("0400", trace(i)), 3, trace(i)+"TERM0001")
			} else {
				want += 100 + i
			}
		}
		if x.Total() != want || len(x.Posts()) != maxPosts {
			t.Fatalf("Total: %d; want %d", x.Total(), want)
		}
		if total := x.Close(); total != want || x.Total() != 0 || len(x.Posts()) != 0 {
			t.Fatalf("Close: %d; want %d", total, want)
		}
		declines(t, x, undo("0400", "000001"), 3, "25")
		if total := x.Close(); total != 0 {
			t.Fatalf("Close: %d", total)
		}
	}
}

// The uses of the cards outlive the posts.
func TestCloseKeepsTheUses(t *testing.T) {
	x := someone.open(t, api.Rule{Ticks: 10, Times: 1, Sum: 100, Once: 80})
	approves(t, x, sale("0100", visa, 60, "000001"), 13, 7, someone.token(t, 1, visa))
	x.Close()
	uses(t, x, api.Use{Card: someone.card(t, visa), Window: 1, Times: 1, Sum: 60})
	declines(t, x, sale("0100", visa, 1, "000001"), 19, "65")
}

// P18.7: arguments and results.

// lent returns a message in memory that can be overwritten.
func lent(m api.Message) (api.Message, func()) {
	var memory [][]byte
	lend := func(s string) string {
		if s == "" {
			return ""
		}
		b := []byte(s)
		memory = append(memory, b)
		return unsafe.String(&b[0], len(b))
	}
	whole := make([]api.Field, len(m.Fields)+4)
	for i := range whole {
		whole[i] = api.Field{N: 99, Value: "spare"}
	}
	copied := api.Message{Type: lend(m.Type), Fields: whole[:len(m.Fields)]}
	for i, f := range m.Fields {
		whole[i] = api.Field{N: f.N, Value: lend(f.Value)}
	}
	return copied, func() {
		for _, b := range memory {
			samples.Spoil(b)
		}
		for i := range whole {
			whole[i] = api.Field{N: -1, Value: "spoilt"}
		}
	}
}

// Of messages of all kinds, that are approved, declined and repeated.
func TestMessagesAreNeitherModifiedNorRetained(t *testing.T) {
	x, other := someone.open(t, wide), someone.open(t, wide)
	for _, m := range []api.Message{
		everything("0100"), everything("0100"), with(everything("0120"), 11, "000002"), with(everything("0200"), 4, "000000000001"),
		everything("0400"), everything("0420"), everything("0800"), everything("0300"), message("0100"), message("xx00"), message("0100", api.Field{N: -5, Value: "abc"}),
	} {
		copied, spoil := lent(m)
		got, note := x.Handle(copied, 3), Note(copied)
		if !same(copied, m) || slices.ContainsFunc(copied.Fields[len(copied.Fields):cap(copied.Fields)], func(f api.Field) bool { return f.N != 99 || f.Value != "spare" }) {
			t.Fatalf("%v became %v", m, copied)
		}
		spoil()
		if want := other.Handle(m, 3); !same(got, want) || note != Note(m) || !bytes.Equal(x.State(), other.State()) {
			t.Fatalf("%v: %v, %q; want %v, %q", m, got, note, want, Note(m))
		}
	}
}

func TestOtherArgumentsAreNeitherModifiedNorRetained(t *testing.T) {
	master := []byte("0123456789abcdef")
	o := owner{bytes.Clone(master), 1}
	want := o.open(t, wide)
	want.Handle(sale("0100", visa, 5, "000001"), 3)
	state := want.State()
	part, whole := samples.Framed(state)
	framed := bytes.Clone(whole)
	made, err := New(master, 1)
	ok(t, err)
	loaded, err := Load(master, 1, part)
	ok(t, err)
	if !bytes.Equal(master, o.master) || !bytes.Equal(whole, framed) {
		t.Fatalf("the arguments became % x and % x", master, whole)
	}
	samples.Spoil(master)
	samples.Spoil(whole)
	prefix, token := []byte("4"), []byte(o.token(t, 1, visa))
	ok(t, made.PutRoute(unsafe.String(&prefix[0], 1), 7))
	ok(t, made.SetRule(wide))
	if back, err := made.Back(unsafe.String(&token[0], len(token))); back != visa || err != api.OK {
		t.Fatalf("Back: %q, %d", back, err)
	}
	samples.Spoil(prefix)
	samples.Spoil(token)
	approves(t, made, sale("0100", visa, 5, "000001"), 3, 7, o.token(t, 1, visa))
	for _, x := range []*Tenant{made, loaded} {
		if !bytes.Equal(x.State(), state) {
			t.Fatalf("% x; want % x", x.State(), state)
		}
	}
}

func TestResultsAreNewMemory(t *testing.T) {
	x := someone.open(t, wide)
	owned := map[*byte]bool{}
	see := func(texts ...string) {
		t.Helper()
		for _, text := range texts {
			if owned[unsafe.StringData(text)] {
				t.Fatalf("the memory of %q is shared", text)
			}
			owned[unsafe.StringData(text)] = true
		}
	}
	seeMessage := func(m api.Message) {
		t.Helper()
		see(m.Type)
		for _, f := range m.Fields {
			see(f.Value)
		}
	}
	for _, m := range []api.Message{
		everything("0100"), everything("0100"), with(everything("0100"), 2, numbers(2)[1]), everything("0400"), everything("0400"),
		everything("0800"), everything("0300"), everything("0301"), message("0100"), message("xx"), message("long"), message(strings.Repeat("long", 100)),
	} {
		// The texts of the messages above aren't all different memory.
		m, _ = lent(m)
		seeMessage(m)
		seeMessage(x.Handle(m, 3))
		see(Note(m), Note(m), Note(message(m.Type)))
	}
	for range 2 {
		for _, p := range x.Posts() {
			see(p.Key, p.Answer)
		}
		back, err := x.Back(someone.token(t, 1, visa))
		ok(t, err)
		see(back)
	}
	before := x.State()
	for _, p := range [][]api.Post{x.Posts(), x.Posts()} {
		p = p[:cap(p)]
		for i := range p {
			p[i] = api.Post{Key: "x", Amount: 99, State: approved, Answer: "y"}
		}
	}
	samples.Spoil(x.State())
	a := x.Handle(everything("0100"), 3)
	a.Fields = a.Fields[:cap(a.Fields)]
	clear(a.Fields)
	if after := x.State(); !bytes.Equal(after, before) {
		t.Errorf("% x became % x", before, after)
	}
}
