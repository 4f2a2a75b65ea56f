package world_test

import (
	"fmt"
	"math"
	"strings"
	"testing"

	"dragoman/api"
	"dragoman/world"
)

func TestM1OnePacket(t *testing.T) {
	came := but(func(b *api.Broker) {
		b.Sessions = append(b.Sessions, api.Session{Client: "eve", On: true, Next: 1})
	})
	mustStep(t, "Connect", some(), nil, of("eve", stream(connect("eve", false))), answer{came, nil, to("eve", connack(false))})
	mustStep(t, "Connect of another", some(), nil, of("eve", stream(connect("ann", false))), answer{b: some()})
	mustStep(t, "Pingreq", some(), nil, of("ann", ping), answer{some(), nil, to("ann", pong())})
	told := but(func(b *api.Broker) {
		b.Kept[1].Payload, b.Kept[1].Version = "21", 6
		b.Sessions[0].Flights, b.Sessions[0].Next = append(b.Sessions[0].Flights, flight(3, "21")), 4
		b.Sessions[2].Queue = append(b.Sessions[2].Queue, flight(0, "21"))
		b.Watches[0].Number, b.Next = 5, 0
	})
	mustStep(t, "Publish", some(), nil, of("bob", stream(retain(publish("a/b", "21", 1, 9)))), answer{told, nil, join(
		to("bob", puback(9)),
		to("ann", publish("a/b", "21", 1, 3)),
		to("bob", publish("a/b", "21", 0, 0)),
		toPeer(1, says(api.Non, api.CodeContent, 65535, "t", "21", "\x05")),
	)})
	mustStep(t, "Disconnect", some(), nil, of("ann", bye), answer{b: gone("ann")})
	mustStep(t, "Disconnect of one who is clean", some(), nil, of("bob", bye), answer{b: gone("bob")})
	for _, client := range []string{"cy", "dan", "eve"} {
		mustStep(t, "of one who is not there", some(), nil, of(client, ping), answer{b: some()})
	}
	mustStep(t, "of no bytes", some(), nil, of("ann", ""), answer{b: some()})
}

// Each packet finds the broker as the one ahead left it.
func TestM1PacketsInOrder(t *testing.T) {
	all := stream(publish("a", "too early", 1, 1), connect("eve", true), subscribe(2, ask("a", 1), ask("new", 0)), retain(publish("new", "1", 0, 0)), publish("a", "2", 1, 3), puback(1), publish("a", "3", 1, 4), unsubscribe(5, "a"), publish("a", "4", 1, 6))
	after := but(func(b *api.Broker) {
		b.Kept = append(b.Kept, api.Kept{Topic: "new", Payload: "1", Version: 1})
		b.Wants = append(b.Wants, want("eve", "new", 0))
		b.Sessions = append(b.Sessions, api.Session{Client: "eve", On: true, Clean: true, Flights: []api.Flight{{Id: 2, Topic: "a", Payload: "3"}}, Next: 3})
	})
	sent := to("eve",
		connack(false), suback(2, 1, 0), retain(publish("a", "one", 0, 0)), publish("new", "1", 0, 0),
		puback(3), publish("a", "2", 1, 1), puback(4), publish("a", "3", 1, 2),
		api.Packet{Kind: api.Unsuback, Id: 5}, puback(6))
	mustStep(t, "in order", some(), nil, of("eve", all), answer{after, nil, sent})
	mustStep(t, "and one who goes", some(), nil, of("eve", all+bye+ping), answer{but(func(b *api.Broker) { b.Kept = after.Kept }), nil, sent})
	mustStep(t, "and comes again", some(), nil, of("ann", ping+bye+ping+stream(connect("ann", false))+ping), answer{some(), nil, to("ann",
		pong(), api.Packet{Kind: api.Connack, Session: true}, again(publish("a/b", "f2", 1, 2)), pong())})
}

func TestM1BytesComeBehindThoseThatWait(t *testing.T) {
	s := ping + stream(publish("x", "21", 1, 7)) + ping
	is := answer{some(), nil, to("ann", pong(), puback(7), pong())}
	for at := range len(s) + 1 {
		var rest []api.Rest
		if at > 0 {
			rest = waits("ann", s[:at])
		}
		mustStep(t, fmt.Sprint("cut at ", at), some(), rest, of("ann", s[at:]), is)
		// None of it is bob's.
		tail := waits("ann", s[:at], "bob", "\xc0")
		if at == 0 {
			tail = tail[1:]
		}
		mustStep(t, fmt.Sprint("and of bob, cut at ", at), some(), tail, of("ann", s[at:]), answer{is.b, waits("bob", "\xc0"), is.sent})
	}
	// As many as may wait, whole packets among them.
	many := strings.Repeat(ping, api.MaxStream/2)
	var pongs []api.Packet
	for range api.MaxStream / 2 {
		pongs = append(pongs, pong())
	}
	mustStep(t, "as many as may wait", some(), waits("ann", many), of("ann", ""), answer{some(), nil, to("ann", pongs...)})
	mustStep(t, "and a half", some(), waits("ann", many), of("ann", "\xc0"), answer{some(), waits("ann", "\xc0"), to("ann", pongs...)})
}

// A packet of as many bytes as may be: all but its last one wait.
func TestM1AsManyWaitAsMayBe(t *testing.T) {
	head := "\x82\xd5\x04\x00\x01" // of 600 bytes in all
	s := head + x(api.MaxStream-len(head))
	mustStep(t, "all but one", some(), nil, of("ann", s[:599]), answer{some(), waits("ann", s[:599]), nil})
	mustStep(t, "all but one, in two pieces", some(), waits("ann", s[:5]), of("ann", s[5:599]), answer{some(), waits("ann", s[:599]), nil})
	mustStep(t, "all, and it is wrong", some(), waits("ann", s[:599]), of("ann", s[599:]), answer{b: gone("ann")})
}

// What waits stands where it does by its client, byte by byte; what waited of it is gone.
func TestM1WhatIsLeftWaits(t *testing.T) {
	others := waits("Bob", "\xc0", "an", "\x30\x05", "annn", "\xc0\x00", "bob", "\xff")
	for client, place := range map[string]int{"!": 0, "BOB": 0, "Boba": 1, "a": 1, "ann": 2, "anna": 2, "anno": 3, "b": 3, "bo": 3, "bobb": 4, "cy": 4, "~": 4} {
		here := func(bytes string) []api.Rest {
			l := append([]api.Rest{}, others[:place]...)
			if bytes != "" {
				l = append(l, api.Rest{Client: client, Bytes: bytes})
			}
			return append(l, others[place:]...)
		}
		var sent []api.Sent
		if client == "ann" {
			sent = to("ann", pong())
		}
		mustStep(t, client+": a new one", some(), others, of(client, "\x30"), answer{some(), here("\x30"), nil})
		mustStep(t, client+": behind a whole packet", some(), others, of(client, ping+"\x30\x07"), answer{some(), here("\x30\x07"), sent})
		mustStep(t, client+": more of it", some(), here("\x30\x07"), of(client, "\x00\x03"), answer{some(), here("\x30\x07\x00\x03"), nil})
		mustStep(t, client+": nothing more", some(), here("\x30\x07"), of(client, ""), answer{some(), here("\x30\x07"), nil})
		mustStep(t, client+": of another packet", some(), here("\xc0"), of(client, "\x00\x10\x0f\x00"), answer{some(), here("\x10\x0f\x00"), sent})
		mustStep(t, client+": it is whole", some(), here("\xc0"), of(client, "\x00"), answer{some(), others, sent})
		mustStep(t, client+": nothing", some(), others, of(client, ""), answer{some(), others, nil})
		mustStep(t, client+": an error", some(), here("\xc0\x80"), of(client, "\x00"), answer{gone(client), others, nil})
	}
}

// What waits of others is not read, nor changed, whatever it is.
func TestM1OthersWait(t *testing.T) {
	rest := waits("ann", ping, "bob", "\xf0\x00", "cy", stream(connect("cy", false)), "zed", x(api.MaxStream))
	mustStep(t, "of a peer", some(), rest, ofPeer(0, ""), answer{some(), rest, nil})
	mustStep(t, "of a peer, a message", some(), rest, ofPeer(3, bytes(api.Message{Id: 7})), answer{some(), rest, toPeer(3, api.Message{Kind: api.Rst, Id: 7})})
	mustStep(t, "of another client", some(), rest, of("dan", ""), answer{some(), rest, nil})
	mustStep(t, "of another client, who comes", some(), rest, of("dan", stream(connect("dan", true))), answer{
		but(func(b *api.Broker) { b.Wants, b.Sessions[3].On = b.Wants[:3], true }), rest, to("dan", connack(false))})
	mustStep(t, "of one of them", some(), rest, of("ann", ""), answer{some(), rest[1:], to("ann", pong())})
	mustStep(t, "of one of them, with an error", some(), rest, of("bob", ""), answer{gone("bob"), waits("ann", ping, "cy", rest[2].Bytes, "zed", rest[3].Bytes), nil})
}

// wrongStreams: each has an error, and more bytes behind it.
func wrongStreams() []string {
	var all []string
	for _, s := range []string{
		"\xf0\x00", "\xc1\x00", "\x00\x00", "\xc0\x01\x00", "\x30\x02\x00\x01", // no packet has these bytes
		"\xc0\x80\x00", "\xc0\xff\xff\xff\xff", "\xc0\xff\xff\xff\x00", // a Long that has ErrForm
		"\x30\xd6\x04", "\xc0\xff\xff\x7f", "\xc0\xff\xff\xff\x7f", // more than MaxStream
		"\x40\x02\x00\x00", "\x20\x02\x01\x01", "\x20\x02\x00\x06", "\x30\x04\x00\x02a#", "\x10\x0c\x00\x04MQTT\x04\x00\x00\x00\x00\x00", // a packet that is wrong
	} {
		all = append(all, s, s+ping, s+stream(connect("ann", false)), s+"\x30")
	}
	return all
}

// Behind the packets ahead of an error the client is gone; nothing waits, and what came behind is let go.
func TestM1AnErrorOfAStream(t *testing.T) {
	for _, s := range wrongStreams() {
		for _, client := range []string{"ann", "bob", "cy", "dan", "eve"} {
			after := gone(client)
			var sent []api.Sent
			if client == "ann" || client == "bob" {
				sent = to(client, pong())
			}
			mustStep(t, fmt.Sprintf("%s %q", client, s), some(), nil, of(client, s), answer{b: after})
			mustStep(t, fmt.Sprintf("%s ping %q", client, s), some(), nil, of(client, ping+s), answer{after, nil, sent})
			for at := 1; at < len(s); at++ {
				mustStep(t, fmt.Sprintf("%s %q waits", client, s[:at]), some(), waits("a", "\xc0", client, s[:at], "z", "\xc0"), of(client, s[at:]), answer{after, waits("a", "\xc0", "z", "\xc0"), nil})
			}
			mustStep(t, fmt.Sprintf("%s all of %q waits", client, s), some(), waits(client, s), of(client, ""), answer{b: after})
		}
	}
}

// All packets ahead do what they do, and he who goes then goes as he is then.
func TestM1PacketsAheadOfAnError(t *testing.T) {
	for _, s := range wrongStreams() {
		came := but(func(b *api.Broker) {
			b.Sessions = append(b.Sessions, api.Session{Client: "eve", Next: 1})
		})
		mustStep(t, "one who comes", some(), nil, of("eve", stream(connect("eve", false))+s), answer{came, nil, to("eve", connack(false))})
		mustStep(t, "one who comes and is clean", some(), nil, of("eve", stream(connect("eve", true), subscribe(1, ask("a/b", 1)))+s), answer{
			some(), nil, to("eve", connack(false), suback(1, 1), retain(publish("a/b", "two", 0, 0)))})
		told := but(func(b *api.Broker) {
			b.Sessions[0].On = false
			b.Sessions[0].Flights, b.Sessions[0].Next = []api.Flight{flight(2, "f2"), {Id: 3, Topic: "a/c", Payload: "last"}}, 4
		})
		mustStep(t, "one who tells himself", some(), nil, of("ann", stream(publish("a/c", "last", 1, 1))+s), answer{told, nil, to("ann", puback(1), publish("a/c", "last", 1, 3))})
		mustStep(t, "one who has gone", some(), nil, of("bob", bye+s), answer{b: gone("bob")})
	}
}

func TestM1MessagesOfPeers(t *testing.T) {
	put := but(func(b *api.Broker) {
		b.Kept = append(b.Kept, api.Kept{Topic: "c", Payload: "21", Version: 1})
	})
	watched := but(func(b *api.Broker) {
		b.Watches = append(b.Watches, api.Watch{Peer: 9, Token: "t", Topic: "a", Number: 1})
	})
	deleted := but(func(b *api.Broker) { b.Kept, b.Watches, b.Next = b.Kept[:1], nil, 0 })
	for _, c := range []struct {
		peer  int
		m     api.Message
		after api.Broker
		sent  []api.Sent
	}{
		{0, api.Message{Id: 7}, some(), toPeer(0, api.Message{Kind: api.Rst, Id: 7})},
		{9, api.Message{Id: 65535}, some(), toPeer(9, api.Message{Kind: api.Rst, Id: 65535})},
		{1, api.Message{Kind: api.Non, Id: 7}, some(), nil},
		{2, asks(api.Ack, api.CodeGet, 7, "t", "a", ""), some(), nil},
		{2, asks(api.Con, api.CodeGet, 7, "t", "a", ""), some(), toPeer(2, says(api.Ack, api.CodeContent, 7, "t", "one"))},
		{9, asks(api.Con, api.CodeGet, 7, "t", "a", "", ""), watched, toPeer(9, says(api.Ack, api.CodeContent, 7, "t", "one", "\x01"))},
		{3, asks(api.Con, api.CodeGet, 7, "t", "b", ""), some(), toPeer(3, says(api.Ack, api.CodeNotFound, 7, "t", ""))},
		{4, asks(api.Con, api.CodePut, 7, "", "c", "21"), put, toPeer(4, says(api.Ack, api.CodeChanged, 7, "", ""))},
		{5, asks(api.Con, api.CodeDelete, 7, "t", "a/b", ""), deleted, join(
			toPeer(5, says(api.Ack, api.CodeDeleted, 7, "t", "")), toPeer(1, says(api.Non, api.CodeNotFound, 65535, "t", "")))},
	} {
		mustStep(t, fmt.Sprintf("%d %+v", c.peer, c.m), some(), nil, ofPeer(c.peer, bytes(c.m)), answer{c.after, nil, c.sent})
	}
}

// Bytes that are no message, or one that is wrong, are let go; none of them waits.
func TestM1BytesThatAreNoMessage(t *testing.T) {
	right := bytes(asks(api.Con, api.CodeDelete, 7, "t", "a/b", ""))
	wrong := []string{"", "x", "\x40", ping, "\x00\x00\x00\x07", "\xc0\x00\x00\x07", "\x49\x01\x00\x07123456789", "\x40\x00\x00\x07\x00", "\x40\x00\x00\x07\xff", "\x40\x00\x00\x07\xffhi", "\x41\x00\x00\x07t", "\x40\x03\x00\x07\xff" + x(201), "\x40\x01\x00\x07" + strings.Repeat("\x00", 13), "\x40\x01\x00\x07\x1d\x30" + x(61), stream(connect("ann", true)), x(1000)}
	for at := range right {
		if at != 5 && at != 7 { // so many are another message
			wrong = append(wrong, right[:at])
		}
	}
	rest := waits("ann", "\xc0")
	for _, s := range wrong {
		for _, peer := range []int{0, 1, 9} {
			mustStep(t, fmt.Sprintf("%q", s), some(), nil, ofPeer(peer, s), answer{b: some()})
			mustStep(t, fmt.Sprintf("%q", s), some(), rest, ofPeer(peer, s), answer{some(), rest, nil})
		}
	}
}

// asked: what is asked of Step.
type asked struct {
	b    api.Broker
	rest []api.Rest
	e    api.Event
	want api.Errno
}

func wrong() []asked {
	bad := but(func(b *api.Broker) { b.Next = -1 })
	ok := of("ann", ping)
	all := []asked{
		// What is wrong with the broker, ahead of all else.
		{bad, nil, ok, api.ErrRange},
		{but(func(b *api.Broker) { b.Kept = nil }), nil, ok, api.ErrState},
		{but(func(b *api.Broker) { b.Sessions = make([]api.Session, 7) }), waits("", ""), of("a b", ""), api.ErrMany},
		{but(func(b *api.Broker) { b.Watches = append(b.Watches, b.Watches[0]) }), waits("", ""), of("a b", ""), api.ErrTwice},
		{bad, waits("", ""), of("a b", ""), api.ErrRange},

		// What waits, ahead of the event.
		{some(), waits("", "\xc0"), ok, api.ErrForm},
		{some(), waits("a b", "\xc0"), ok, api.ErrForm},
		{some(), waits("\x7f", "\xc0"), ok, api.ErrForm},
		{some(), waits("\xff", "\xc0"), ok, api.ErrForm},
		{some(), waits(x(21), "\xc0"), ok, api.ErrForm},
		{some(), waits("ann", ""), ok, api.ErrForm},
		{some(), waits("ann", x(601)), ok, api.ErrMany},
		{some(), waits("ann", x(1000)), ofPeer(0, ""), api.ErrMany},
		{some(), waits("ann", "\xc0", "ann", "\xc0"), ok, api.ErrState},
		{some(), waits("bob", "\xc0", "ann", "\xc0"), ok, api.ErrState},
		{some(), waits("ann", "\xc0", "Bob", "\xc0"), ok, api.ErrState},
		{some(), waits("anna", "\xc0", "ann", "\xc0"), ok, api.ErrState},
		{some(), waits("a", "\xc0", "c", "\xc0", "b", "\xc0"), ok, api.ErrState},
		{some(), waits("ann", "\xc0"), of("a b", ""), api.ErrForm},
		{some(), waits("ann", x(601)), of("a b", ""), api.ErrMany},
		{some(), waits("ann", "1", "ann", "1"), of("a b", ""), api.ErrState},
		{some(), waits("ann", "1", "ann", "1"), ofPeer(10, ""), api.ErrState},

		// One by one, and of each that which is named first.
		{some(), waits("", x(601)), ok, api.ErrForm},
		{some(), waits("bob", "1", "ann", ""), ok, api.ErrForm},
		{some(), waits("bob", "1", "ann", x(601)), ok, api.ErrMany},
		{some(), waits("ann", x(601), "", "1"), ok, api.ErrMany},
		{some(), waits("ann", "1", "ann", "1", "", ""), ok, api.ErrState},
		{some(), waits("ann", "1", "", "", "zed", x(601)), ok, api.ErrForm},
		{some(), waits("ann", "1", "ann", "1", "zed", x(601)), ok, api.ErrState},
	}
	return append(all, wrongEvents()...)
}

func wrongEvents() []asked {
	var all []asked
	for _, client := range []string{" ", "a b", "ann ", "\x00", "\x20", "\x7f", "\x80", "\xff", "\n", x(21), x(1000)} {
		for _, peer := range []int{0, 1, 10, -1} {
			all = append(all, asked{some(), nil, api.Event{Client: client, Peer: peer, Bytes: ping}, api.ErrForm})
		}
	}
	for _, peer := range []int{-1, 10, 11, 256, math.MaxInt, math.MinInt} {
		all = append(all, asked{some(), nil, ofPeer(peer, bytes(api.Message{Id: 7})), api.ErrRange})
	}
	for _, peer := range []int{-1, 1, 9, 10, math.MaxInt, math.MinInt} {
		all = append(all, asked{some(), nil, api.Event{Client: "ann", Peer: peer, Bytes: ping}, api.ErrRange})
	}
	return all
}

func TestM1Errors(t *testing.T) {
	for _, c := range wrong() {
		got, left, sent, e := world.Step(c.b, c.rest, c.e)
		if e != c.want || !isZero(got, left, sent) {
			t.Errorf("of %s\n%+v is %s %d, must be %d", show(c.b, c.rest, nil), c.e, show(got, left, sent), e, c.want)
		}
	}
}

// The edges of what may be.
func TestM1WhatIsNoError(t *testing.T) {
	for _, client := range []string{"!", "~", x(20), "ann"} {
		mustStep(t, client, some(), waits("!", "\xc0", "ann", "\xc0", x(20), "\xc0", "~", "\xc0"), of(client, ""), answer{some(), waits("!", "\xc0", "ann", "\xc0", x(20), "\xc0", "~", "\xc0"), nil})
	}
	for peer := range api.MaxPeers + 1 {
		mustStep(t, "of a peer", some(), nil, ofPeer(peer, bytes(api.Message{Id: 7})), answer{some(), nil, toPeer(peer, api.Message{Kind: api.Rst, Id: 7})})
	}
	var many []string
	for i := range 100 {
		many = append(many, fmt.Sprintf("c%03d", i), "\xc0")
	}
	mustStep(t, "more of whom something waits than may have sessions", some(), waits(many...), of("c050", "\x00"), answer{some(), waits(append(many[:100:100], many[102:]...)...), nil})
}
