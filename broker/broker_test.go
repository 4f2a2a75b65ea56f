package broker_test

import (
	"fmt"
	"strings"
	"testing"

	"dragoman/api"
	"dragoman/broker"
	"dragoman/message"
	"dragoman/packet"
)

func x(n int) string { return strings.Repeat("x", n) }

func want(client, filter string, qos int) api.Want {
	return api.Want{Client: client, Ask: api.Ask{Filter: filter, Qos: qos}}
}

func flight(id int, payload string) api.Flight {
	return api.Flight{Id: id, Topic: "a/b", Payload: payload}
}

// some broker that is right: of ann, who is there, bob, who is there and clean, cy, who is away, and dan, who is away and clean.
func some() api.Broker {
	return api.Broker{
		Kept:  []api.Kept{{Topic: "a", Payload: "one", Version: 1}, {Topic: "a/b", Payload: "two", Version: 5}, {Topic: "c", Payload: "three", Version: api.MaxSeq}},
		Wants: []api.Want{want("ann", "#", 0), want("ann", "a/+", 1), want("bob", "a/b", 0), want("cy", "a/b", 1), want("dan", "a/b", 1)},
		Sessions: []api.Session{
			{Client: "ann", On: true, Flights: []api.Flight{flight(2, "f2")}, Next: 3},
			{Client: "bob", On: true, Clean: true, Next: 1},
			{Client: "cy", Flights: []api.Flight{flight(5, "f5"), flight(4, "f4")}, Queue: []api.Flight{flight(0, "q1"), flight(0, "q2")}, Next: 4},
			{Client: "dan", Clean: true, Next: 1},
		},
		Watches: []api.Watch{{Peer: 1, Token: "t", Topic: "a/b", Number: 4}, {Peer: 2, Token: "u", Topic: "c", Number: api.MaxSeq}, {Peer: 0, Token: "", Topic: "a/b", Number: api.MaxSeq}},
		Next:    65535,
	}
}

// but: some broker, changed.
func but(change func(b *api.Broker)) api.Broker {
	b := some()
	change(&b)
	return b
}

// keptMany: so many topics that are kept, k00, k01 and so on.
func keptMany(n int) []api.Kept {
	var all []api.Kept
	for i := range n {
		all = append(all, api.Kept{Topic: fmt.Sprintf("k%02d", i), Payload: "p", Version: 1})
	}
	return all
}

// wantsMany: so many wants of ann.
func wantsMany(n int) []api.Want {
	var all []api.Want
	for i := range n {
		all = append(all, want("ann", fmt.Sprintf("w%02d", i), 0))
	}
	return all
}

// sessionsMany: so many sessions, of s0, s1 and so on, who are there.
func sessionsMany(n int) []api.Session {
	var all []api.Session
	for i := range n {
		all = append(all, api.Session{Client: fmt.Sprint("s", i), On: true, Next: 1})
	}
	return all
}

// watchesMany: so many watches of c.
func watchesMany(n int) []api.Watch {
	var all []api.Watch
	for i := range n {
		all = append(all, api.Watch{Peer: 3, Token: fmt.Sprint(i), Topic: "c", Number: i})
	}
	return all
}

func connect(client string, clean bool) api.Packet {
	return api.Packet{Kind: api.Connect, Client: client, Clean: clean, Keep: 60}
}

func connack(session bool) api.Packet { return api.Packet{Kind: api.Connack, Session: session} }

func publish(name, payload string, qos, id int) api.Packet {
	return api.Packet{Kind: api.Publish, Topic: name, Payload: payload, Qos: qos, Id: id}
}

func retain(p api.Packet) api.Packet {
	p.Retain = true
	return p
}

func again(p api.Packet) api.Packet {
	p.Dup = true
	return p
}

func puback(id int) api.Packet { return api.Packet{Kind: api.Puback, Id: id} }

func ask(filter string, qos int) api.Ask { return api.Ask{Filter: filter, Qos: qos} }

func subscribe(id int, all ...api.Ask) api.Packet {
	return api.Packet{Kind: api.Subscribe, Id: id, Asks: all}
}

func unsubscribe(id int, filters ...string) api.Packet {
	p := api.Packet{Kind: api.Unsubscribe, Id: id}
	for _, f := range filters {
		p.Asks = append(p.Asks, ask(f, 0))
	}
	return p
}

func suback(id int, codes ...int) api.Packet {
	return api.Packet{Kind: api.Suback, Id: id, Codes: codes}
}

// asks: a message by a path, and with options of OptObserve ahead of it.
func asks(kind, code, id int, token, path, payload string, observe ...string) api.Message {
	m := api.Message{Kind: kind, Code: code, Id: id, Token: token, Payload: payload}
	for _, o := range observe {
		m.Options = append(m.Options, api.Option{Number: api.OptObserve, Value: o})
	}
	for _, level := range strings.Split(path, "/") {
		m.Options = append(m.Options, api.Option{Number: api.OptPath, Value: level})
	}
	return m
}

// says: a message without an option but that of OptObserve.
func says(kind, code, id int, token, payload string, observe ...string) api.Message {
	m := api.Message{Kind: kind, Code: code, Id: id, Token: token, Payload: payload}
	for _, o := range observe {
		m.Options = append(m.Options, api.Option{Number: api.OptObserve, Value: o})
	}
	return m
}

// to a client, these packets.
func to(client string, all ...api.Packet) []api.Sent {
	var sent []api.Sent
	for _, p := range all {
		sent = append(sent, api.Sent{Client: client, Packet: p})
	}
	return sent
}

// toPeer: one message.
func toPeer(peer int, m api.Message) []api.Sent { return []api.Sent{{Peer: peer, Message: m}} }

func join(lists ...[]api.Sent) []api.Sent {
	var all []api.Sent
	for _, l := range lists {
		all = append(all, l...)
	}
	return all
}

// show what is the same, if an empty list is nil or not.
func show(b api.Broker, sent []api.Sent) string {
	return strings.NewReplacer("Sessions:", "\n\tSessions:", "Watches:", "\n\tWatches:", "{Client:", "\n\t\t{Client:").Replace(fmt.Sprintf("%+v\n\tsent %+v", b, sent))
}

// isRight: may the broker be so, and be sent what is?
func isRight(b api.Broker, sent []api.Sent) bool {
	for _, s := range sent {
		_, e := packet.Encode(s.Packet)
		_, f := message.Encode(s.Message)
		if s.Client != "" && (e != api.OK || s.Peer != 0) || s.Client == "" && f != api.OK {
			return false
		}
	}
	return broker.Check(b) == api.OK
}

// doPacket: the answer, which must have no error and be right.
func doPacket(t *testing.T, b api.Broker, client string, p api.Packet) (api.Broker, []api.Sent) {
	t.Helper()
	got, sent, e := broker.Packet(b, client, p)
	if e != api.OK || !isRight(got, sent) {
		t.Fatalf("of %s\n%+v is %s %d", client, p, show(got, sent), e)
	}
	return got, sent
}

func doMessage(t *testing.T, b api.Broker, peer int, m api.Message) (api.Broker, []api.Sent) {
	t.Helper()
	got, sent, e := broker.Message(b, peer, m)
	if e != api.OK || !isRight(got, sent) {
		t.Fatalf("of %d\n%+v is %s %d", peer, m, show(got, sent), e)
	}
	return got, sent
}

// must be a broker, and sent this.
func must(t *testing.T, what string, b api.Broker, sent []api.Sent, wantB api.Broker, wantSent []api.Sent) {
	t.Helper()
	if show(b, sent) != show(wantB, wantSent) {
		t.Errorf("%s: it is %s\nand must be %s", what, show(b, sent), show(wantB, wantSent))
	}
}

// mustPacket: what comes of a packet.
func mustPacket(t *testing.T, what string, b api.Broker, client string, p api.Packet, wantB api.Broker, wantSent []api.Sent) {
	t.Helper()
	got, sent := doPacket(t, b, client, p)
	must(t, what, got, sent, wantB, wantSent)
}

func mustMessage(t *testing.T, what string, b api.Broker, peer int, m api.Message, wantB api.Broker, wantSent []api.Sent) {
	t.Helper()
	got, sent := doMessage(t, b, peer, m)
	must(t, what, got, sent, wantB, wantSent)
}
