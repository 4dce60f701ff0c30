package tenant

import (
	"strconv"

	"moneyer/api"
	"moneyer/iso"
	"moneyer/pan"
)

// Handle answers a message at a tick.
func (t *Tenant) Handle(m api.Message, now int) api.Message {
	if iso.Right(m) != api.OK || now < 0 || now > api.MaxTick {
		return rejection(api.CodeForm)
	}
	r := request{m, now}
	switch r.Type {
	case "0100", "0200", "0120", "0220":
		return t.transact(r)
	case "0400", "0420":
		return r.answer(t.reverse(r))
	case "0800":
		return r.answer(manage(r))
	}
	return rejection(api.CodeType)
}

// transact answers a request or an advice for a transaction.
func (t *Tenant) transact(r request) api.Message {
	if r.lacks(fieldCard, fieldAmount, fieldTrace, fieldTerminal) {
		return r.answer(api.CodeForm)
	}
	number := r.value(fieldCard)
	if !pan.Is(number) {
		return r.answer(api.CodePan)
	}
	if post, known := t.posts.Ask(r.key()); known {
		return t.repeat(r, post)
	}
	target, known := t.routes.Find(number)
	if !known {
		return r.answer(api.CodeRoute)
	}
	if !t.hasRoom(r.amount()) {
		return r.answer(api.CodeRoom)
	}
	if code := t.limit(r); code != api.CodeOk {
		return r.answer(code)
	}
	return t.approve(r, target)
}

// repeat answers a request whose key a post has: as it was answered before, if it is the same transaction.
func (t *Tenant) repeat(r request, post api.Post) api.Message {
	o := t.outcomeOf(post)
	if post.Amount != r.amount() || o.number != r.value(fieldCard) {
		return r.answer(api.CodeOther)
	}
	return approval(r, o)
}

// hasRoom tells whether the ledger takes another post with that amount.
func (t *Tenant) hasRoom(amount int) bool {
	return len(t.posts.List()) < api.MaxPosts && t.posts.Total()+amount <= api.MaxTotal
}

// limit records a request for the limits, if they permit it, and returns the code for that.
func (t *Tenant) limit(r request) string {
	if r.isAdvice() {
		return api.CodeOk
	}
	switch t.uses.Try(t.rule, t.card(r.value(fieldCard)), r.amount(), r.now) {
	case api.OK:
		return api.CodeOk
	case api.ErrOver:
		return api.CodeOver
	case api.ErrCount:
		return api.CodeOften
	}
	return api.CodeRoom
}

// approve adds the post of a transaction and answers it.
func (t *Tenant) approve(r request, target int) api.Message {
	number := r.value(fieldCard)
	// It is a card number, so it has a token.
	token, _ := t.Token(number)
	o := outcome{number, token, target, r.now}
	// There is room for the post, and none has its key, so it is added.
	t.posts.Approve(r.key(), r.amount(), o.text())
	return approval(r, o)
}

// approval returns the approving answer.
func approval(r request, o outcome) api.Message {
	return r.answer(api.CodeOk,
		api.Field{N: fieldTarget, Value: strconv.Itoa(o.target)},
		api.Field{N: fieldToken, Value: o.token})
}

// reverse reverses the post of a transaction, unless it was reversed before, and returns the code for that.
func (t *Tenant) reverse(r request) string {
	if r.lacks(fieldTerminal, fieldOriginal) {
		return api.CodeForm
	}
	key := r.originalKey()
	post, known := t.posts.Ask(key)
	if !known {
		return api.CodeMissing
	}
	if amount, err := t.posts.Reverse(key); err == api.OK {
		o := t.outcomeOf(post)
		// The use may be gone, or be for another window by now: then there is nothing to take back.
		t.uses.Undo(t.rule, t.card(o.number), amount, o.tick)
	}
	return api.CodeOk
}

// manage returns the code for a message of network management.
func manage(r request) string {
	if r.lacks(fieldNetwork) {
		return api.CodeForm
	}
	return api.CodeOk
}

// card returns what the limits know a card number by.
func (t *Tenant) card(number string) string {
	// A card number has a token, and a token is one.
	token, _ := t.cards.Token(number)
	shaped, _, _ := pan.Split(token)
	return shaped
}
