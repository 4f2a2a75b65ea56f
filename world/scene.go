package world

import (
	"slices"
	"strings"

	"dragoman/api"
	"dragoman/broker"
	"dragoman/copies"
	"dragoman/frame"
	"dragoman/message"
)

// scene: where events happen: a broker and what waits, in memory of their own, and what is sent. All that is handed to the broker has been checked, and a broker stays right: where an error of it is let go, there is none.
type scene struct {
	api.Broker
	rest []api.Rest
	sent []api.Sent
}

func begin(b api.Broker, rest []api.Rest) *scene {
	return &scene{Broker: copies.Broker(b), rest: those(rest, func(api.Rest) bool { return true })}
}

func (s *scene) happen(e api.Event) {
	if isOfPeer(e) {
		s.hear(e.Peer, e.Bytes)
		return
	}
	s.read(e.Client, e.Bytes)
}

// hear a peer: bytes that are no message are let go.
func (s *scene) hear(peer int, bytes string) {
	m, e := message.Decode(bytes)
	if e != api.OK {
		return
	}
	s.take(broker.Message(s.Broker, peer, m))
}

// read a client's stream. One that has an error ends there: nobody can tell where a packet would begin.
func (s *scene) read(client, bytes string) {
	packets, left, e := frame.Feed(s.waiting(client), bytes)
	for _, p := range packets {
		s.take(broker.Packet(s.Broker, client, p))
	}
	if e != api.OK {
		s.Broker, _ = broker.Gone(s.Broker, client)
	}
	s.wait(client, left)
}

// take what the broker answers.
func (s *scene) take(b api.Broker, sent []api.Sent, _ api.Errno) {
	s.Broker = b
	s.sent = append(s.sent, sent...)
}

// waiting bytes of a client.
func (s *scene) waiting(client string) string {
	i := slices.IndexFunc(s.rest, func(r api.Rest) bool { return r.Client == client })
	if i < 0 {
		return ""
	}
	return s.rest[i].Bytes
}

// wait: these bytes of a client wait now, where they stand by its name, in the place of those that did.
func (s *scene) wait(client, bytes string) {
	all := those(s.rest, func(r api.Rest) bool { return r.Client < client })
	if bytes != "" {
		all = append(all, clone(api.Rest{Client: client, Bytes: bytes}))
	}
	s.rest = append(all, those(s.rest, func(r api.Rest) bool { return r.Client > client })...)
}

// those that are looked for: a copy of them, in order.
func those(l []api.Rest, isLookedFor func(api.Rest) bool) []api.Rest {
	var all []api.Rest
	for _, r := range l {
		if isLookedFor(r) {
			all = append(all, clone(r))
		}
	}
	return all
}

func clone(r api.Rest) api.Rest {
	return api.Rest{Client: strings.Clone(r.Client), Bytes: strings.Clone(r.Bytes)}
}
