package tenant

import (
	"bytes"
	"fmt"
	"slices"
	"strings"
	"testing"

	"moneyer/api"
	"moneyer/iso"
	"moneyer/limits"
	"moneyer/pan"
	"moneyer/route"
	"moneyer/samples"
	"moneyer/vault"
)

// P18.8 and P18.9: theorems, and all promises on Handle by random messages.

// bank is a tenant as the document words it, in plain lists.
type bank struct {
	owner
	version int
	rule    api.Rule
	routes  *route.Table
	book    *limits.Book
	posts   []api.Post
	vaults  map[int]*vault.Vault
}

func newBank(o owner) *bank {
	return &bank{owner: o, version: 1, rule: api.Rule{Ticks: 1}, routes: route.New(), book: limits.New(), vaults: map[int]*vault.Vault{}}
}

// under returns the vault of a version.
func (b *bank) under(version int) *vault.Vault {
	if b.vaults[version] == nil {
		b.vaults[version], _ = vault.New(b.master, b.number, version)
	}
	return b.vaults[version]
}

// card returns what the limits know a card number by.
func (b *bank) card(number string) string {
	token, _ := b.under(1).Token(number)
	return token[:len(token)-2]
}

// total is that of the posts that were approved.
func (b *bank) total() int {
	total := 0
	for _, p := range b.posts {
		if p.State == 1 {
			total += p.Amount
		}
	}
	return total
}

// find returns the place of a post, or -1.
func (b *bank) find(key string) int {
	return slices.IndexFunc(b.posts, func(p api.Post) bool { return p.Key == key })
}

// handle answers a message.
func (b *bank) handle(m api.Message, now int) api.Message {
	if iso.Right(m) != api.OK || now < 0 || now > 1<<40 {
		return refused("30")
	}
	switch m.Type {
	case "0100", "0200", "0120", "0220":
		code, target, token := b.transact(m, now)
		return reply(m, code, target, token)
	case "0400", "0420":
		return reply(m, b.reverse(m), "", "")
	case "0800":
		if valueOf(m, 70) == "" {
			return reply(m, "30", "", "")
		}
		return reply(m, "00", "", "")
	}
	return refused("12")
}

// transact returns the code of the answer to a request or an advice, and what else an approving one has.
func (b *bank) transact(m api.Message, now int) (code, target, token string) {
	number, key := valueOf(m, 2), valueOf(m, 11)+valueOf(m, 41)
	for _, n := range []int{2, 4, 11, 41} {
		if valueOf(m, n) == "" {
			return "30", "", ""
		}
	}
	if !pan.Is(number) {
		return "14", "", ""
	}
	amount := decimal(valueOf(m, 4))
	if at := b.find(key); at >= 0 {
		stored := strings.Fields(b.posts[at].Answer)
		if back, _ := b.under(b.version).Back(stored[1]); b.posts[at].Amount != amount || back != number {
			return "94", "", ""
		}
		return "00", stored[2], stored[1]
	}
	to, found := b.routes.Find(number)
	if !found {
		return "15", "", ""
	}
	if len(b.posts) == 24 || b.total()+amount > 5000000000000 {
		return "96", "", ""
	}
	if m.Type == "0100" || m.Type == "0200" {
		err := b.book.Try(b.rule, b.card(number), amount, now)
		switch err {
		case api.OK:
		case api.ErrOver:
			return "61", "", ""
		case api.ErrCount:
			return "65", "", ""
		default:
			return "96", "", ""
		}
	}
	token, _ = b.under(b.version).Token(number)
	b.posts = append(b.posts, api.Post{Key: key, Amount: amount, State: 1, Answer: fmt.Sprintf("00 %s %d %d", token, to, now)})
	return "00", fmt.Sprint(to), token
}

// reverse returns the code of the answer to a reversal.
func (b *bank) reverse(m api.Message) string {
	if valueOf(m, 41) == "" || valueOf(m, 90) == "" {
		return "30"
	}
	at := b.find(valueOf(m, 90)[4:10] + valueOf(m, 41))
	if at < 0 {
		return "25"
	}
	if b.posts[at].State == 1 {
		b.posts[at].State = 2
		stored := strings.Fields(b.posts[at].Answer)
		number, _ := b.under(b.version).Back(stored[1])
		b.book.Undo(b.rule, b.card(number), b.posts[at].Amount, decimal(stored[3]))
	}
	return "00"
}

// state is the encoding of the bank.
func (b *bank) state() []byte {
	return sketch{version: b.version, rule: b.rule, routes: b.routes.List(), uses: b.book.List(), posts: b.posts}.bytes()
}

// clerk yields messages and what else a tenant is asked; the ticks seldom go back.
type clerk struct {
	*samples.Source
	cards []string
	sent  []api.Message
	now   int
}

func newClerk(number int) *clerk {
	c := &clerk{Source: samples.New(number), cards: numbers(18)}
	for n := 16; n <= 19; n++ {
		c.cards = append(c.cards, c.Card(n), c.Card(n))
	}
	return c
}

// pick yields one of some values.
func (c *clerk) pick(values ...string) string {
	return values[c.Below(len(values))]
}

// amount yields amounts, most of them small.
func (c *clerk) amount() int {
	switch c.Below(20) {
	case 0:
		return maxAmount - c.Below(3)
	case 1, 2:
		return c.Below(maxAmount + 1)
	}
	return c.Below(120)
}

// message yields messages, most of them valid; some come in again, for which the last twenty are kept.
func (c *clerk) message() api.Message {
	if len(c.sent) > 0 && c.Below(5) == 0 {
		m := c.sent[c.Below(len(c.sent))]
		switch c.Below(6) {
		case 0:
			m.Type = c.pick("0100", "0120", "0200", "0220")
		case 1:
			m = with(m, 2, c.cards[c.Below(len(c.cards))])
		case 2:
			m = with(m, 3, c.Digits(6))
		}
		return m
	}
	m := c.newMessage()
	c.sent = append(c.sent, m)
	c.sent = c.sent[max(0, len(c.sent)-20):]
	return m
}

// newMessage yields messages, most of them valid.
func (c *clerk) newMessage() api.Message {
	m := everything(c.pick("0100", "0100", "0200", "0120", "0220"))
	switch c.Below(24) {
	case 0, 1, 2, 3:
		m.Type = c.pick("0400", "0420")
	case 4:
		m.Type = c.pick("0800", "0300", "0110", "0000", "9990", "x", "")
	}
	m = with(m, 2, c.cards[c.Below(len(c.cards))])
	m = with(m, 4, fmt.Sprintf("%012d", c.amount()))
	m = with(m, 11, trace(c.Below(40)))
	m = with(m, 90, c.Digits(4)+trace(c.Below(40))+c.Digits(32))
	m = with(m, 41, c.pick("TERM0001", "TERM0001", "TERM0001", " "+c.Digits(7)))
	// Most fields don't matter.
	m.Fields = slices.DeleteFunc(m.Fields, func(f api.Field) bool {
		return !slices.Contains([]int{2, 4, 11, 41, 70, 90}, f.N) && c.Below(4) > 0
	})
	switch c.Below(30) {
	case 0:
		m = without(m, m.Fields[c.Below(len(m.Fields))].N)
	case 1:
		m = with(m, 2, c.Digits(14+c.Below(6)))
	case 2:
		m.Fields[c.Below(len(m.Fields))].Value = c.pick("", "x", "12345678")
	case 3:
		m.Fields[c.Below(len(m.Fields))].N += c.Below(200) - 100
	}
	return m
}

// tick yields the tick of the next message.
func (c *clerk) tick() int {
	switch c.Below(60) {
	case 0:
		return []int{-1, maxTick, maxTick + 1, api.MinInt, api.MaxInt, 0}[c.Below(6)]
	case 1, 2, 3, 4, 5:
		c.now += c.Below(30)
	}
	return c.now
}

// rule yields rules, some of them wrong.
func (c *clerk) rule() api.Rule {
	r := api.Rule{Ticks: 1 + c.Below(30), Times: c.Below(6), Sum: c.Below(500), Once: 50 + c.Below(100)}
	switch c.Below(6) {
	case 0:
		r = wide
	case 1:
		r = api.Rule{Ticks: 1 + c.Below(30), Times: maxAmount, Sum: maxAmount, Once: maxAmount}
	case 2:
		r.Ticks = []int{0, -1, maxTick, maxTick + 1}[c.Below(4)]
	}
	return r
}

// administers makes a call beside Handle to a tenant and a bank.
func (c *clerk) administers(t *testing.T, x *Tenant, b *bank) {
	t.Helper()
	var got, want string
	switch c.Below(7) {
	case 0:
		r := c.rule()
		got = fmt.Sprint(x.SetRule(r))
		want = fmt.Sprint(api.ErrArg)
		if limits.Right(r) {
			b.rule = r
			want = fmt.Sprint(api.OK)
		}
	case 1, 2, 3:
		prefix, target := c.pick("", "4", "4", "41111", c.Digits(1), c.Digits(1), c.Digits(2), c.Digits(9)), c.Below(101)
		got, want = fmt.Sprint(x.PutRoute(prefix, target)), fmt.Sprint(b.routes.Put(prefix, target))
	case 4:
		prefix := c.pick("", "4", c.Digits(1), c.Digits(2))
		got, want = fmt.Sprint(x.DropRoute(prefix)), fmt.Sprint(b.routes.Drop(prefix))
	case 5:
		version, err := x.Rotate()
		b.version++
		got, want = fmt.Sprint(version, err), fmt.Sprint(b.version, api.OK)
	case 6:
		got, want = fmt.Sprint(x.Close()), fmt.Sprint(b.total())
		b.posts = nil
	}
	if got != want {
		t.Fatalf("%s; want %s", got, want)
	}
}

// agrees asks that a tenant is the same as a bank.
func agrees(t *testing.T, x *Tenant, b *bank) {
	t.Helper()
	if x.Total() != b.total() || x.Rule() != b.rule || !slices.Equal(x.Posts(), b.posts) {
		t.Fatalf("%d, %v, %v; want %d, %v, %v", x.Total(), x.Rule(), x.Posts(), b.total(), b.rule, b.posts)
	}
	if got, want := x.State(), b.state(); !bytes.Equal(got, want) {
		t.Fatalf("State: % x; want % x", got, want)
	}
}

// Random messages and other calls, against a bank; a tenant that is loaded from time to time answers them as well.
func TestRandomCalls(t *testing.T) {
	c := newClerk(253)
	counts := map[string]int{}
	for range 20 {
		o := anyone(c.Source)
		x, b := o.tenant(t), newBank(o)
		loaded := o.loads(t, x.State())
		c.now = c.Below(100)
		for range 600 {
			if c.Below(20) == 0 {
				c.administers(t, x, b)
				loaded = o.loads(t, x.State())
			}
			m, now := c.message(), c.tick()
			want := b.handle(m, now)
			answers(t, x, m, now, want)
			answers(t, loaded, m, now, want)
			agrees(t, x, b)
			agrees(t, loaded, b)
			counts[want.Type[:3]+valueOf(want, 39)]++
		}
	}
	for _, answer := range []string{"00012", "00030", "01100", "01114", "01115", "01130", "01161", "01165", "01194", "01196", "01300", "01394", "01396", "02100", "02300", "04100", "04125", "04300", "04325", "08100"} {
		if counts[answer] < 10 {
			t.Errorf("only %d answers %s", counts[answer], answer)
		}
	}
}

// What is declined, and what is repeated, changes nothing; the total is that of the answers alone.
func TestBookkeeping(t *testing.T) {
	c := newClerk(254)
	repeated := 0
	for range 20 {
		x := anyone(c.Source).open(t, wide)
		first := map[string]api.Message{} // the approving answers, by key
		amounts := map[string]int{}       // what counts
		for range 300 {
			m, now := c.message(), c.tick()
			before := x.State()
			a := x.Handle(m, now)
			sold := strings.Contains(" 0110 0130 0210 0230 ", a.Type) && valueOf(a, 39) == "00"
			undone := strings.Contains(" 0410 0430 ", a.Type) && valueOf(a, 39) == "00"
			key := valueOf(m, 11) + valueOf(m, 41)
			if undone {
				key = valueOf(m, 90)[4:10] + valueOf(m, 41)
			}
			_, known := first[key]
			switch {
			case sold && known:
				repeated++
				if valueOf(first[key], 48) != valueOf(a, 48) || valueOf(first[key], 32) != valueOf(a, 32) {
					t.Fatalf("%v; at first %v", a, first[key])
				}
			case sold:
				first[key], amounts[key] = a, decimal(valueOf(m, 4))
			case undone && !known:
				t.Fatalf("%v reverses nothing", m)
			case undone:
				delete(amounts, key)
			}
			if changed := !bytes.Equal(x.State(), before); changed && !(sold && !known) && !undone {
				t.Fatalf("%v, answered %v, changed the State", m, a)
			}
			if sold {
				changesNothing(t, x, m, now, a)
			}
			total := 0
			for _, amount := range amounts {
				total += amount
			}
			if x.Total() != total {
				t.Fatalf("Total: %d; want %d", x.Total(), total)
			}
		}
	}
	if repeated < 20 {
		t.Errorf("only %d were repeated by chance", repeated)
	}
}

// A loaded tenant goes on like the other one, through many calls.
func TestLoadedTenantsGoOn(t *testing.T) {
	c := newClerk(255)
	for range 30 {
		o := anyone(c.Source)
		x := o.open(t, wide)
		for range c.Below(100) {
			x.Handle(c.message(), c.tick())
		}
		loaded := o.loads(t, x.State())
		for range 100 {
			m, now := c.message(), c.tick()
			if first, second := x.Handle(m, now), loaded.Handle(m, now); !same(first, second) || !bytes.Equal(x.State(), loaded.State()) {
				t.Fatalf("%v: %v; the loaded tenant: %v", m, first, second)
			}
			if c.Below(30) == 0 {
				first, _ := x.Rotate()
				if second, _ := loaded.Rotate(); first != second {
					t.Fatalf("Rotate: %d and %d", first, second)
				}
			}
			if c.Below(60) == 0 && x.Close() != loaded.Close() {
				t.Fatal("Close")
			}
		}
	}
}
