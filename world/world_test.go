package world_test

import (
	"fmt"
	"slices"
	"strings"
	"testing"

	"dragoman/api"
	"dragoman/broker"
	"dragoman/message"
	"dragoman/packet"
	"dragoman/world"
)

const (
	ping = "\xc0\x00"
	bye  = "\xe0\x00"
)

func x(n int) string { return strings.Repeat("x", n) }

func want(client, filter string, qos int) api.Want {
	return api.Want{Client: client, Ask: api.Ask{Filter: filter, Qos: qos}}
}

func flight(id int, payload string) api.Flight {
	return api.Flight{Id: id, Topic: "a/b", Payload: payload}
}

// some broker that is right: of ann, who is there, bob, who is there and clean, cy, who is away, and dan, who is away and clean.
func some() api.Broker {
	return api.Broker{
		Kept:  []api.Kept{{Topic: "a", Payload: "one", Version: 1}, {Topic: "a/b", Payload: "two", Version: 5}},
		Wants: []api.Want{want("ann", "a/+", 1), want("bob", "a/b", 0), want("cy", "a/b", 1), want("dan", "a/b", 1)},
		Sessions: []api.Session{
			{Client: "ann", On: true, Flights: []api.Flight{flight(2, "f2")}, Next: 3},
			{Client: "bob", On: true, Clean: true, Next: 1},
			{Client: "cy", Flights: []api.Flight{flight(5, "f5"), flight(4, "f4")}, Queue: []api.Flight{flight(0, "q1"), flight(0, "q2")}, Next: 4},
			{Client: "dan", Clean: true, Next: 1},
		},
		Watches: []api.Watch{{Peer: 1, Token: "t", Topic: "a/b", Number: 4}},
		Next:    65535,
	}
}

// but: some broker, changed.
func but(change func(b *api.Broker)) api.Broker {
	b := some()
	change(&b)
	return b
}

// gone: some broker, of which a client has gone: it is away, and if it was clean, its session and its wants are not there.
func gone(client string) api.Broker {
	return but(func(b *api.Broker) {
		switch client {
		case "ann":
			b.Sessions[0].On = false
		case "bob":
			b.Sessions, b.Wants = slices.Delete(b.Sessions, 1, 2), slices.Delete(b.Wants, 1, 2)
		case "dan":
			b.Sessions, b.Wants = b.Sessions[:3], b.Wants[:3]
		}
	})
}

func connect(client string, clean bool) api.Packet {
	return api.Packet{Kind: api.Connect, Client: client, Clean: clean, Keep: 60}
}

func connack(session bool) api.Packet { return api.Packet{Kind: api.Connack, Session: session} }

func publish(name, payload string, qos, id int) api.Packet {
	return api.Packet{Kind: api.Publish, Topic: name, Payload: payload, Qos: qos, Id: id}
}

func retain(p api.Packet) api.Packet {
	p.Retain = true
	return p
}

func again(p api.Packet) api.Packet {
	p.Dup = true
	return p
}

func puback(id int) api.Packet { return api.Packet{Kind: api.Puback, Id: id} }

func ask(filter string, qos int) api.Ask { return api.Ask{Filter: filter, Qos: qos} }

func subscribe(id int, all ...api.Ask) api.Packet {
	return api.Packet{Kind: api.Subscribe, Id: id, Asks: all}
}

func unsubscribe(id int, filter string) api.Packet {
	return api.Packet{Kind: api.Unsubscribe, Id: id, Asks: []api.Ask{ask(filter, 0)}}
}

func suback(id int, codes ...int) api.Packet {
	return api.Packet{Kind: api.Suback, Id: id, Codes: codes}
}

func pong() api.Packet { return api.Packet{Kind: api.Pingresp} }

// asks: a message by a path, and with options of OptObserve ahead of it.
func asks(kind, code, id int, token, path, payload string, observe ...string) api.Message {
	m := says(kind, code, id, token, payload, observe...)
	for _, level := range strings.Split(path, "/") {
		m.Options = append(m.Options, api.Option{Number: api.OptPath, Value: level})
	}
	return m
}

// says: a message without an option but that of OptObserve.
func says(kind, code, id int, token, payload string, observe ...string) api.Message {
	m := api.Message{Kind: kind, Code: code, Id: id, Token: token, Payload: payload}
	for _, o := range observe {
		m.Options = append(m.Options, api.Option{Number: api.OptObserve, Value: o})
	}
	return m
}

// stream: the bytes of packets, one behind the other.
func stream(all ...api.Packet) string {
	var s strings.Builder
	for _, p := range all {
		one, e := packet.Encode(p)
		if e != api.OK {
			panic(fmt.Sprintf("no bytes of %+v: %d", p, e))
		}
		s.WriteString(one)
	}
	return s.String()
}

// bytes of a message.
func bytes(m api.Message) string {
	s, e := message.Encode(m)
	if e != api.OK {
		panic(fmt.Sprintf("no bytes of %+v: %d", m, e))
	}
	return s
}

// of a client: an event.
func of(client, bytes string) api.Event { return api.Event{Client: client, Bytes: bytes} }

func ofPeer(peer int, bytes string) api.Event { return api.Event{Peer: peer, Bytes: bytes} }

// waits: clients, and the bytes that wait of each.
func waits(all ...string) []api.Rest {
	var l []api.Rest
	for i := 0; i+1 < len(all); i += 2 {
		l = append(l, api.Rest{Client: all[i], Bytes: all[i+1]})
	}
	return l
}

// to a client, these packets.
func to(client string, all ...api.Packet) []api.Sent {
	var sent []api.Sent
	for _, p := range all {
		sent = append(sent, api.Sent{Client: client, Packet: p})
	}
	return sent
}

func toPeer(peer int, m api.Message) []api.Sent { return []api.Sent{{Peer: peer, Message: m}} }

func join(lists ...[]api.Sent) []api.Sent {
	var all []api.Sent
	for _, l := range lists {
		all = append(all, l...)
	}
	return all
}

// show what is the same, if an empty list is nil or not.
func show(b api.Broker, rest []api.Rest, sent []api.Sent) string {
	return strings.NewReplacer("Sessions:", "\n\tSessions:", "Watches:", "\n\tWatches:", "{Client:", "\n\t\t{Client:").Replace(fmt.Sprintf("%+v\n\twaits %q\n\tsent %+v", b, rest, sent))
}

// isZero: is there nothing in an answer?
func isZero(b api.Broker, rest []api.Rest, sent []api.Sent) bool {
	return show(b, rest, sent) == show(api.Broker{}, nil, nil)
}

// isRight: may the broker be so, and may so much wait?
func isRight(b api.Broker, rest []api.Rest) bool {
	ahead := ""
	for _, r := range rest {
		if r.Client <= ahead || r.Bytes == "" || len(r.Bytes) > api.MaxStream {
			return false
		}
		ahead = r.Client
	}
	return broker.Check(b) == api.OK
}

// step: the answer, which must have no error and be right.
func step(t *testing.T, b api.Broker, rest []api.Rest, e api.Event) (api.Broker, []api.Rest, []api.Sent) {
	t.Helper()
	got, left, sent, wrong := world.Step(b, rest, e)
	if wrong != api.OK || !isRight(got, left) {
		t.Fatalf("of %s\n%+v is %s %d", show(b, rest, nil), e, show(got, left, sent), wrong)
	}
	return got, left, sent
}

// answer of a step.
type answer struct {
	b    api.Broker
	rest []api.Rest
	sent []api.Sent
}

// mustStep: what comes of an event.
func mustStep(t *testing.T, what string, b api.Broker, rest []api.Rest, e api.Event, is answer) {
	t.Helper()
	got, left, sent := step(t, b, rest, e)
	if show(got, left, sent) != show(is.b, is.rest, is.sent) {
		t.Errorf("%s: it is %s\nand must be %s", what, show(got, left, sent), show(is.b, is.rest, is.sent))
	}
}
