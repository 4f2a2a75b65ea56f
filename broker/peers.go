package broker

import (
	"strings"

	"dragoman/api"
	"dragoman/keep"
	"dragoman/option"
	"dragoman/watch"
)

const (
	askWatch  = 0 // api.OptObserve of a message that asks to watch
	askCancel = 1 // of one that asks to watch no more
	firstTold = 1 // of the answer to a peer that watches from then on

	putQos = 1 // how surely what a peer puts is told
)

func (t *teller) takeMessage(peer int, m api.Message) {
	if m.Kind == api.Ack || m.Kind == api.Rst {
		return
	}
	if m.Code != api.CodeEmpty {
		t.answer(peer, m)
		return
	}
	if m.Kind == api.Con {
		t.message(peer, api.Message{Kind: api.Rst, Id: m.Id})
	}
}

func (t *teller) answer(peer int, m api.Message) {
	name, e := option.Path(m)
	if e != api.OK {
		t.reply(peer, m, api.CodeBad)
		return
	}
	switch m.Code {
	case api.CodeGet:
		t.get(peer, m, name)
	case api.CodePut:
		t.put(peer, m, name)
	case api.CodeDelete:
		t.reply(peer, m, api.CodeDeleted)
		t.keep(name, "")
	default:
		t.reply(peer, m, api.CodeNot)
	}
}

// reply by nothing but a code.
func (t *teller) reply(peer int, m api.Message, code int) {
	t.message(peer, t.answerTo(m, code))
}

// answerTo a message: by its own Id if it waits for that, and always by its token.
func (t *teller) answerTo(m api.Message, code int) api.Message {
	a := api.Message{Kind: api.Ack, Code: code, Id: m.Id, Token: strings.Clone(m.Token)}
	if m.Kind != api.Con {
		a.Kind, a.Id = api.Non, t.nextId()
	}
	return a
}

func (t *teller) get(peer int, m api.Message, name string) {
	k, e := keep.Get(t.Kept, name)
	if e != api.OK {
		t.reply(peer, m, api.CodeNotFound)
		return
	}
	a := t.answerTo(m, api.CodeContent)
	a.Payload = k.Payload
	if t.watchAsAsked(peer, m, name) {
		a, _ = option.WithUint(a, api.OptObserve, firstTold)
	}
	t.message(peer, a)
}

// watchAsAsked: a message may ask to watch, or to watch no more, or neither. Does the peer watch the topic from now on?
func (t *teller) watchAsAsked(peer int, m api.Message, name string) bool {
	asked, e := option.Uint(m, api.OptObserve)
	if e != api.OK {
		return false
	}
	switch asked {
	case askWatch:
		all, e := watch.Add(t.Watches, peer, m.Token, name)
		if e != api.OK {
			return false
		}
		t.Watches = all
		return true
	case askCancel:
		t.Watches, _ = watch.Cancel(t.Watches, peer, m.Token)
	}
	return false
}

// put: it is kept ahead of the answer, which tells whether that could be.
func (t *teller) put(peer int, m api.Message, name string) {
	if m.Payload == "" || !t.keep(name, m.Payload) {
		t.reply(peer, m, api.CodeBad)
		return
	}
	t.reply(peer, m, api.CodeChanged)
	t.tell(name, m.Payload, putQos)
}
