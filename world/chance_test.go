package world_test

import (
	"fmt"
	"maps"
	"slices"
	"testing"

	"dragoman/api"
	"dragoman/broker"
	"dragoman/frame"
	"dragoman/message"
)

// draw numbers, the same each time.
type draw uint64

func (d *draw) n(n int) int {
	*d = *d*6364136223846793005 + 1442695040888963407
	return int(uint64(*d) >> 33 % uint64(n))
}

// one of some texts.
func (d *draw) one(all ...string) string { return all[d.n(len(all))] }

func (d *draw) name() string { return d.one("a", "a/b", "a/c", "b", "/", "a/b/c", "a", "a/b") }

func (d *draw) filter() string {
	return d.one("a", "a/b", "a/+", "a/#", "#", "+", "+/b", "b", "/", "+/+")
}

func (d *draw) client() string {
	return d.one("ann", "bob", "an", "cy", "Dan", "~", "!", x(20), "ann", "bob")
}

func (d *draw) ask() api.Ask { return ask(d.filter(), d.n(2)) }

// payload: another one each time, but some are empty.
func (d *draw) payload() string {
	if d.n(12) == 0 {
		return ""
	}
	return fmt.Sprint("p", d.n(1000000))
}

// packet of a client, by chance.
func (d *draw) packet(client string) api.Packet {
	switch d.n(16) {
	case 0, 1, 2:
		return connect(client, d.n(3) == 0)
	case 3, 4:
		return subscribe(1+d.n(api.MaxId), d.ask(), d.ask())
	case 5:
		return unsubscribe(1+d.n(api.MaxId), d.filter())
	case 6, 7, 8, 9:
		return puback(1 + d.n(8))
	case 10:
		return api.Packet{Kind: []int{api.Pingreq, api.Disconnect, api.Pingresp}[d.n(3)]}
	}
	qos := d.n(2)
	p := publish(d.name(), d.payload(), qos, qos*(1+d.n(api.MaxId)))
	p.Retain = d.n(2) == 0
	return p
}

// message of a peer, by chance.
func (d *draw) message() api.Message {
	kind, id, token := d.n(2), d.n(65536), d.one("", "t", "u")
	switch d.n(9) {
	case 0:
		return api.Message{Kind: d.n(4), Id: id}
	case 1:
		return asks(d.n(4), 1+d.n(255), id, token, d.name(), d.payload())
	case 2, 3:
		return asks(kind, api.CodePut, id, token, d.name(), d.payload())
	case 4:
		return asks(kind, api.CodeDelete, id, token, d.name(), "")
	case 5:
		return asks(kind, api.CodeGet, id, token, d.name(), "", "\x01")
	}
	return asks(kind, api.CodeGet, id, token, d.name(), "", "")
}

// chance: events by chance, and what a client has begun to send.
type chance struct {
	draw
	begun map[string]string
}

func newChance(seed int) *chance { return &chance{draw(seed), map[string]string{}} }

// event by chance: a message, a piece of what a client goes on to send, or bytes that are nothing.
func (c *chance) event() api.Event {
	switch c.n(20) {
	case 0:
		return of(c.client(), c.one("", "\xf0\x00", "\xc0\x80\x00", "\x30\xff\xff", "\x00", x(900)))
	case 1:
		return ofPeer(c.n(10), c.one("", "x", "\x40", ping, "\x41\x01\x00\x00"))
	case 2, 3, 4, 5, 6:
		return ofPeer(c.n(10), bytes(c.message()))
	}
	client := c.client()
	s := c.begun[client]
	for s == "" || c.n(3) == 0 {
		s += stream(c.packet(client))
	}
	at := len(s)
	if c.n(2) == 0 {
		at = c.n(at + 1)
	}
	c.begun[client] = s[at:]
	return of(client, s[:at])
}

// layers: what the layers do, one call behind the other.
type layers struct {
	b    api.Broker
	rest map[string]string
	sent []api.Sent
}

func (l *layers) happen(e api.Event) {
	l.sent = nil
	if e.Client == "" {
		if m, wrong := message.Decode(e.Bytes); wrong == api.OK {
			l.b, l.sent, _ = broker.Message(l.b, e.Peer, m)
		}
		return
	}
	all, left, wrong := frame.Feed("", l.rest[e.Client]+e.Bytes)
	for _, p := range all {
		b, sent, _ := broker.Packet(l.b, e.Client, p)
		l.b, l.sent = b, join(l.sent, sent)
	}
	l.rest[e.Client] = left
	if wrong != api.OK {
		l.b, _ = broker.Gone(l.b, e.Client)
	}
}

func (l *layers) show() string {
	var rest []api.Rest
	for _, client := range slices.Sorted(maps.Keys(l.rest)) {
		if l.rest[client] != "" {
			rest = append(rest, api.Rest{Client: client, Bytes: l.rest[client]})
		}
	}
	return show(l.b, rest, l.sent)
}

func TestM1ByChance(t *testing.T) {
	for seed := range 5 {
		c := newChance(seed)
		l := &layers{rest: map[string]string{}}
		var b api.Broker
		var rest []api.Rest
		waited, told := 0, 0
		for n := range 2000 {
			e := c.event()
			after, left, sent := step(t, b, rest, e)
			l.happen(e)
			if show(after, left, sent) != l.show() {
				t.Fatalf("step %d: of %s\n%+v is %s\nand must be %s", n, show(b, rest, nil), e, show(after, left, sent), l.show())
			}
			b, rest = after, left
			waited, told = max(waited, len(rest)), told+len(sent)
		}
		if waited < 3 || told < 1000 {
			t.Errorf("there waited at most %d, and were sent %d: that is too little", waited, told)
		}
	}
}
