package tenant

import (
	"moneyer/api"
	"moneyer/coding"
	"moneyer/ledger"
	"moneyer/limits"
	"moneyer/vault"
)

// state is what the encoding of a tenant contains.
type state struct {
	version int
	rule    api.Rule
	routes  []api.Route
	uses    []api.Use
	posts   []api.Post
}

// State returns the encoding of the tenant.
func (t *Tenant) State() []byte {
	var w coding.Writer
	w.Numbers(t.Version(), t.rule.Ticks, t.rule.Times, t.rule.Sum, t.rule.Once)
	routes := t.routes.List()
	w.Numbers(len(routes))
	for _, r := range routes {
		w.Text(r.Prefix)
		w.Numbers(r.Target)
	}
	uses := t.uses.List()
	w.Numbers(len(uses))
	for _, u := range uses {
		w.Text(u.Card)
		w.Numbers(u.Window, u.Times, u.Sum)
	}
	posts := t.posts.List()
	w.Numbers(len(posts))
	for _, p := range posts {
		w.Text(p.Key)
		w.Numbers(p.Amount, p.State)
		w.Text(p.Answer)
	}
	return w.Bytes()
}

// Load returns the tenant with an encoding.
func Load(master []byte, tenant int, b []byte) (*Tenant, api.Errno) {
	t, err := New(master, tenant)
	if err != api.OK {
		return nil, err
	}
	s, whole := decode(b)
	if !whole {
		return nil, api.ErrState
	}
	if t.Vault, err = vault.New(master, tenant, s.version); err != api.OK {
		return nil, api.ErrState
	}
	if !t.restore(s) {
		return nil, api.ErrState
	}
	return t, api.OK
}

// decode returns what bytes contain, and whether they contain exactly that.
func decode(b []byte) (state, bool) {
	var s state
	r := coding.NewReader(b)
	s.version = r.Number()
	s.rule = api.Rule{Ticks: r.Number(), Times: r.Number(), Sum: r.Number(), Once: r.Number()}
	r.List(api.MaxRoutes, func() {
		s.routes = append(s.routes, api.Route{Prefix: r.Text(), Target: r.Number()})
	})
	r.List(api.MaxCards, func() {
		s.uses = append(s.uses, api.Use{Card: r.Text(), Window: r.Number(), Times: r.Number(), Sum: r.Number()})
	})
	r.List(api.MaxPosts, func() {
		s.posts = append(s.posts, api.Post{Key: r.Text(), Amount: r.Number(), State: r.Number(), Answer: r.Text()})
	})
	return s, r.Whole()
}

// restore fills a new tenant that has its vault already, and tells whether the rest is one that a tenant can have.
func (t *Tenant) restore(s state) bool {
	var err api.Errno
	if t.SetRule(s.rule) != api.OK || !t.restoreRoutes(s.routes) {
		return false
	}
	if t.uses, err = limits.Restore(s.uses); err != api.OK {
		return false
	}
	if t.posts, err = ledger.Restore(s.posts); err != api.OK {
		return false
	}
	for _, p := range s.posts {
		if _, is := t.readOutcome(p.Answer); !is {
			return false
		}
	}
	return true
}

// restoreRoutes adds routes, and tells whether they are valid and in order.
func (t *Tenant) restoreRoutes(routes []api.Route) bool {
	for i, r := range routes {
		if i > 0 && r.Prefix <= routes[i-1].Prefix || t.PutRoute(r.Prefix, r.Target) != api.OK {
			return false
		}
	}
	return true
}
