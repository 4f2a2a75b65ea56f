package broker

import (
	"slices"
	"strings"

	"dragoman/api"
	"dragoman/keep"
	"dragoman/option"
	"dragoman/session"
	"dragoman/want"
	"dragoman/watch"
)

// teller: a broker, in memory of its own, and what it sends. All that it hands to the layers has been checked: where the error of one is let go, there is none.
type teller struct {
	api.Broker
	sent []api.Sent
}

// packets to a client.
func (t *teller) packets(client string, all ...api.Packet) {
	for _, p := range all {
		t.sent = append(t.sent, api.Sent{Client: strings.Clone(client), Packet: p})
	}
}

// message to a peer.
func (t *teller) message(peer int, m api.Message) {
	t.sent = append(t.sent, api.Sent{Peer: peer, Message: m})
}

// nextId of a message that is no answer to an Id.
func (t *teller) nextId() int {
	id := t.Next
	t.Next = (id + 1) % (maxNext + 1)
	return id
}

// notice: a message by which a watch is told something.
func (t *teller) notice(w api.Watch, code int) api.Message {
	return api.Message{Kind: api.Non, Code: code, Id: t.nextId(), Token: strings.Clone(w.Token)}
}

// tell a topic a payload: each reader as surely as it wants, but no more surely than it came.
func (t *teller) tell(name, payload string, qos int) {
	readers, _ := want.Readers(t.Wants, name)
	for _, r := range readers {
		t.inSession(r.Client, func(s api.Session) (api.Session, []api.Packet, api.Errno) {
			return session.Send(s, name, payload, min(r.Qos, qos))
		})
	}
	all, told, _ := watch.Tell(t.Watches, name)
	t.Watches = all
	for _, w := range told {
		m := t.notice(w, api.CodeContent)
		m.Payload = payload
		// It copies the payload too.
		m, _ = option.WithUint(m, api.OptObserve, w.Number)
		t.message(w.Peer, m)
	}
}

// keep a payload by a topic: was it done?
func (t *teller) keep(name, payload string) bool {
	all, e := keep.Put(t.Kept, name, payload)
	if e != api.OK {
		return false
	}
	t.Kept = all
	if payload == "" {
		t.end(name)
	}
	return true
}

// end of a topic's watches: it is not kept any more.
func (t *teller) end(name string) {
	goes := func(w api.Watch) bool { return w.Topic == name }
	for _, w := range t.Watches {
		if goes(w) {
			t.message(w.Peer, t.notice(w, api.CodeNotFound))
		}
	}
	t.Watches = slices.DeleteFunc(t.Watches, goes)
}
