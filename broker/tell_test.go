package broker_test

import (
	"fmt"
	"testing"

	"dragoman/api"
	"dragoman/packet"
)

// With a client that wants nothing: what it publishes comes to others alone.
func withPub(b api.Broker) api.Broker {
	b.Sessions = append(append([]api.Session{}, b.Sessions...), api.Session{Client: "pub", On: true, Next: 1})
	return b
}

// A reader is told by its Qos, or that which it came with, if that is less.
func TestL2TheLesserQos(t *testing.T) {
	for wanted := range 2 {
		for came := range 2 {
			b := withPub(api.Broker{Wants: []api.Want{want("ann", "a", wanted)}, Sessions: []api.Session{{Client: "ann", On: true, Next: 8}}})
			after := withPub(b)
			after.Sessions = []api.Session{{Client: "ann", On: true, Next: 8}, b.Sessions[1]}
			sent := to("ann", publish("a", "p", 0, 0))
			if wanted == 1 && came == 1 {
				after.Sessions[0].Flights, after.Sessions[0].Next = []api.Flight{{Id: 8, Topic: "a", Payload: "p"}}, 9
				sent = to("ann", publish("a", "p", 1, 8))
			}
			if came == 1 {
				sent = join(to("pub", puback(7)), sent)
			}
			mustPacket(t, fmt.Sprint("wanted by ", wanted, ", came by ", came), b, "pub", publish("a", "p", came, 7*came), after, sent)
		}
	}
}

// Each reader once, by the greatest Qos of its filters, and rising; he who published too; then the watches, as they came.
func TestL2TellSome(t *testing.T) {
	after := but(func(b *api.Broker) {
		b.Sessions[0].Flights = append(b.Sessions[0].Flights, flight(3, "new"))
		b.Sessions[0].Next = 4
		b.Sessions[2].Queue = append(b.Sessions[2].Queue, flight(0, "new"))
		b.Watches[0].Number, b.Watches[2].Number = 5, 0
		b.Next = 1
	})
	sent := join(
		to("bob", puback(65535)),
		to("ann", publish("a/b", "new", 1, 3)),
		to("bob", publish("a/b", "new", 0, 0)),
		toPeer(1, says(api.Non, api.CodeContent, 65535, "t", "new", "\x05")),
		toPeer(0, says(api.Non, api.CodeContent, 0, "", "new", "")), // Ids and numbers begin anew
	)
	mustPacket(t, "of Qos 1", some(), "bob", publish("a/b", "new", 1, 65535), after, sent)
	mustPacket(t, "again", some(), "bob", again(publish("a/b", "new", 1, 65535)), after, sent)
}

// Of Qos 0 who is away is told nothing, and nothing flies.
func TestL2TellSomeOfQos0(t *testing.T) {
	after := but(func(b *api.Broker) {
		b.Watches[0].Number, b.Watches[2].Number = 5, 0
		b.Next = 1
	})
	mustPacket(t, "of Qos 0", some(), "ann", publish("a/b", "new", 0, 0), after, join(
		to("ann", publish("a/b", "new", 0, 0)),
		to("bob", publish("a/b", "new", 0, 0)),
		toPeer(1, says(api.Non, api.CodeContent, 65535, "t", "new", "\x05")),
		toPeer(0, says(api.Non, api.CodeContent, 0, "", "new", "")),
	))
}

// An empty payload is told too.
func TestL2TellNoBytes(t *testing.T) {
	after := but(func(b *api.Broker) {
		b.Watches[1].Number = 0
		b.Next = 0
	})
	mustPacket(t, "no bytes", some(), "bob", publish("c", "", 0, 0), after, join(
		to("ann", publish("c", "", 0, 0)),
		toPeer(2, says(api.Non, api.CodeContent, 65535, "u", "", "")),
	))
	b := but(func(b *api.Broker) { b.Watches[1].Number = 65535 })
	after.Watches[1].Number = 65536
	mustPacket(t, "many bytes", b, "bob", publish("c", x(200), 0, 0), after, join(
		to("ann", publish("c", x(200), 0, 0)),
		toPeer(2, says(api.Non, api.CodeContent, 65535, "u", x(200), "\x01\x00\x00")),
	))
}

func TestL2NobodyIsTold(t *testing.T) {
	b := withPub(but(func(b *api.Broker) { b.Wants = b.Wants[2:] }))
	for _, name := range []string{"a/", "/", "b", "a/b/c", "C", x(60)} {
		mustPacket(t, name, b, "pub", publish(name, "p", 0, 0), b, nil)
		mustPacket(t, name, b, "pub", publish(name, "p", 1, 3), b, to("pub", puback(3)))
	}
}

// Where flights are full it waits; where the queue is full too it is told to all others.
func TestL2FullSessions(t *testing.T) {
	full := func(queue int) api.Broker {
		return but(func(b *api.Broker) {
			b.Sessions[0].Flights = []api.Flight{flight(2, "f2"), flight(7, "f7"), flight(3, "f3")}
			for i := range queue {
				b.Sessions[0].Queue = append(b.Sessions[0].Queue, flight(0, fmt.Sprint(i)))
			}
			b.Wants, b.Watches = b.Wants[:3], nil
		})
	}
	after := full(5)
	after.Sessions[0].Queue = append(after.Sessions[0].Queue, flight(0, "new"))
	sent := join(to("ann", puback(1)), to("bob", publish("a/b", "new", 0, 0)))
	mustPacket(t, "room for one", full(5), "ann", publish("a/b", "new", 1, 1), after, sent)
	mustPacket(t, "no room", full(6), "ann", publish("a/b", "new", 1, 1), full(6), sent)
}

// quiet: some broker whose topics nobody wants or watches, but a peer watches c.
func quiet() api.Broker {
	return but(func(b *api.Broker) { b.Wants, b.Watches = nil, b.Watches[1:2] })
}

func TestL2Keep(t *testing.T) {
	for _, c := range []struct {
		name, payload string
		want          []api.Kept
	}{
		{"a", "new", []api.Kept{{Topic: "a", Payload: "new", Version: 2}, some().Kept[1], some().Kept[2]}},
		{"a/b", "two", []api.Kept{some().Kept[0], {Topic: "a/b", Payload: "two", Version: 6}, some().Kept[2]}}, // the same payload too
		{"b", x(200), []api.Kept{some().Kept[0], some().Kept[1], {Topic: "b", Payload: x(200), Version: 1}, some().Kept[2]}},
		{"a", "", some().Kept[1:]},
		{"b", "", some().Kept},
	} {
		after := quiet()
		after.Kept = c.want
		mustPacket(t, "retained "+c.name, quiet(), "ann", retain(publish(c.name, c.payload, 0, 0)), after, nil)
		if c.payload != "" {
			mustMessage(t, "put "+c.name, quiet(), 4, asks(api.Con, api.CodePut, 6, "k", c.name, c.payload), after, toPeer(4, says(api.Ack, api.CodeChanged, 6, "k", "")))
		} else {
			mustMessage(t, "deleted "+c.name, quiet(), 4, asks(api.Con, api.CodeDelete, 6, "k", c.name, ""), after, toPeer(4, says(api.Ack, api.CodeDeleted, 6, "k", "")))
		}
	}
	// The greatest version stays, and the watch is told all the same.
	after := quiet()
	after.Kept[2].Payload, after.Watches[0].Number, after.Next = "new", 0, 0
	mustPacket(t, "of MaxSeq", quiet(), "ann", retain(publish("c", "new", 0, 0)), after, toPeer(2, says(api.Non, api.CodeContent, 65535, "u", "new", "")))
}

// What is not retained is told, and not kept.
func TestL2NotKept(t *testing.T) {
	for _, name := range []string{"a", "a/b", "b"} {
		mustPacket(t, name, quiet(), "ann", publish(name, "p", 0, 0), quiet(), nil)
		mustPacket(t, name, quiet(), "ann", publish(name, "", 0, 0), quiet(), nil)
	}
}

// What is not kept any more is watched by nobody: each watch is told so, in order, ahead of those who want it.
func TestL2NotKeptAnyMore(t *testing.T) {
	after := but(func(b *api.Broker) {
		b.Kept = []api.Kept{b.Kept[0], b.Kept[2]}
		b.Watches = b.Watches[1:2]
		b.Next = 1
		b.Sessions[0].Flights = append(b.Sessions[0].Flights, flight(3, ""))
		b.Sessions[0].Next = 4
		b.Sessions[2].Queue = append(b.Sessions[2].Queue, flight(0, ""))
	})
	gone := join(
		toPeer(1, says(api.Non, api.CodeNotFound, 65535, "t", "")),
		toPeer(0, says(api.Non, api.CodeNotFound, 0, "", "")),
	)
	mustPacket(t, "published", some(), "ann", retain(publish("a/b", "", 1, 9)), after, join(
		to("ann", puback(9)), gone,
		to("ann", publish("a/b", "", 1, 3)),
		to("bob", publish("a/b", "", 0, 0)),
	))
	// Who wants it is told nothing, when it is deleted.
	after.Sessions = some().Sessions
	mustMessage(t, "deleted", some(), 5, asks(api.Con, api.CodeDelete, 6, "k", "a/b", ""), after, join(
		toPeer(5, says(api.Ack, api.CodeDeleted, 6, "k", "")), gone,
	))
}

// fullOfKept: as many topics as may be, and ann wants all.
func fullOfKept() api.Broker {
	return api.Broker{Kept: keptMany(api.MaxKept), Wants: []api.Want{want("ann", "#", 1)}, Sessions: []api.Session{{Client: "ann", On: true, Next: 1}}, Next: 5}
}

// What can't be kept is told all the same, if it is published; if it is put, it is not.
func TestL2KeptFull(t *testing.T) {
	after := fullOfKept()
	after.Sessions[0].Flights, after.Sessions[0].Next = []api.Flight{{Id: 1, Topic: "z", Payload: "new"}}, 2
	mustPacket(t, "published", fullOfKept(), "ann", retain(publish("z", "new", 1, 9)), after, to("ann", puback(9), publish("z", "new", 1, 1)))
	mustMessage(t, "put", fullOfKept(), 1, asks(api.Con, api.CodePut, 6, "k", "z", "new"), fullOfKept(), toPeer(1, says(api.Ack, api.CodeBad, 6, "k", "")))

	after = fullOfKept()
	after.Kept[15] = api.Kept{Topic: "k15", Payload: "new", Version: 2}
	after.Sessions[0].Flights, after.Sessions[0].Next = []api.Flight{{Id: 1, Topic: "k15", Payload: "new"}}, 2
	mustMessage(t, "one of them", fullOfKept(), 1, asks(api.Con, api.CodePut, 6, "k", "k15", "new"), after, join(
		toPeer(1, says(api.Ack, api.CodeChanged, 6, "k", "")), to("ann", publish("k15", "new", 1, 1)),
	))
}

// The document's example, in bytes.
func TestL2TheExample(t *testing.T) {
	b := api.Broker{Wants: []api.Want{want("ann", "a/+", 1)}, Sessions: []api.Session{{Client: "ann", On: true, Next: 1}}}
	b, sent := doMessage(t, b, 2, asks(api.Con, api.CodePut, 8, "", "a/b", "21"))
	must(t, "what is sent", api.Broker{}, sent, api.Broker{}, join(toPeer(2, says(api.Ack, api.CodeChanged, 8, "", "")), to("ann", publish("a/b", "21", 1, 1))))
	must(t, "what is kept", api.Broker{Kept: b.Kept}, nil, api.Broker{Kept: []api.Kept{{Topic: "a/b", Payload: "21", Version: 1}}}, nil)
	if bytes, _ := packet.Encode(sent[1].Packet); bytes != "\x32\x09\x00\x03a/b\x00\x0121" {
		t.Errorf("ann is sent %q", bytes)
	}
	landed, e := packet.Decode("\x40\x02\x00\x01")
	if b, _ = doPacket(t, b, "ann", landed); e != api.OK || len(b.Sessions[0].Flights) > 0 {
		t.Errorf("there flies %+v", b.Sessions)
	}
	// Then a peer watches.
	b, _ = doMessage(t, b, 1, asks(api.Con, api.CodeGet, 9, "t", "a/b", "", ""))
	_, sent = doMessage(t, b, 2, asks(api.Con, api.CodePut, 10, "", "a/b", "21"))
	must(t, "what is told", api.Broker{}, sent[2:], api.Broker{}, toPeer(1, says(api.Non, api.CodeContent, b.Next, "t", "21", "\x02")))
}
