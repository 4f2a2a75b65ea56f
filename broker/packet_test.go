package broker_test

import (
	"fmt"
	"math"
	"testing"

	"dragoman/api"
	"dragoman/broker"
)

// A client of whom there is no session: it stands where it is by name, and is as new.
func TestL3ConnectOfANewClient(t *testing.T) {
	for at, client := range map[int]string{0: "Zed", 1: "annn", 2: "c", 3: "cyx", 4: "z"} {
		for _, clean := range []bool{false, true} {
			after := but(func(b *api.Broker) {
				s := append([]api.Session{}, b.Sessions[:at]...)
				s = append(s, api.Session{Client: client, On: true, Clean: clean, Next: 1})
				b.Sessions = append(s, b.Sessions[at:]...)
			})
			mustPacket(t, client, some(), client, connect(client, clean), after, to(client, connack(false)))
		}
	}
	after := api.Broker{Sessions: []api.Session{{Client: "ann", On: true, Next: 1}}, Next: 7}
	mustPacket(t, "the first one", api.Broker{Next: 7}, "ann", connect("ann", false), after, to("ann", connack(false)))
}

// He who comes again, and neither was clean nor asks for it, has what he had.
func TestL3ConnectGoesOn(t *testing.T) {
	after := but(func(b *api.Broker) {
		b.Sessions[2].On = true
		b.Sessions[2].Flights = append(b.Sessions[2].Flights, flight(6, "q1"))
		b.Sessions[2].Queue = b.Sessions[2].Queue[1:]
		b.Sessions[2].Next = 7
	})
	mustPacket(t, "away", some(), "cy", connect("cy", false), after, to("cy",
		api.Packet{Kind: api.Connack, Session: true},
		again(publish("a/b", "f5", 1, 5)), again(publish("a/b", "f4", 1, 4)), publish("a/b", "q1", 1, 6)))
	mustPacket(t, "there", some(), "ann", connect("ann", false), some(), to("ann",
		api.Packet{Kind: api.Connack, Session: true}, again(publish("a/b", "f2", 1, 2))))
}

// Else all that the client was is gone: its wants, what flew and what waited.
func TestL3ConnectAnew(t *testing.T) {
	for i, c := range []struct {
		place int
		clean bool
		wants []api.Want
	}{
		{0, true, some().Wants[2:]},
		{1, true, append(some().Wants[:2], some().Wants[3:]...)},
		{1, false, append(some().Wants[:2], some().Wants[3:]...)}, // it was clean: there is nothing to go on with
		{2, true, append(some().Wants[:3], some().Wants[4:]...)},
		{3, true, some().Wants[:4]},
		{3, false, some().Wants[:4]},
	} {
		client := some().Sessions[c.place].Client
		after := but(func(b *api.Broker) {
			b.Wants = c.wants
			b.Sessions[c.place] = api.Session{Client: client, On: true, Clean: c.clean, Next: 1}
		})
		mustPacket(t, fmt.Sprint(i, client, c.clean), some(), client, connect(client, c.clean), after, to(client, connack(false)))
	}
}

func TestL3ConnectOfAnother(t *testing.T) {
	for _, client := range []string{"ann", "bob", "cy", "dan", "new"} {
		for _, other := range []string{"eve", "an", "annn", "Ann", "bobby"} {
			mustPacket(t, client, some(), client, connect(other, true), some(), nil)
		}
	}
}

func TestL3ConnectWhereThereAreTooMany(t *testing.T) {
	b := api.Broker{Sessions: sessionsMany(api.MaxSessions), Wants: []api.Want{want("s2", "#", 0)}}
	for _, clean := range []bool{false, true} {
		mustPacket(t, "no room", b, "new", connect("new", clean), b, to("new", api.Packet{Kind: api.Connack, Code: 3}))
		// Who has a session has room.
		after := b
		after.Sessions = sessionsMany(api.MaxSessions)
		after.Sessions[2].Clean = clean
		sent := to("s2", connack(!clean))
		if clean {
			after.Wants = nil
		}
		mustPacket(t, "of the third one", b, "s2", connect("s2", clean), after, sent)
	}
	b.Sessions = b.Sessions[:api.MaxSessions-1]
	after := b
	after.Sessions = append(append([]api.Session{}, b.Sessions...), api.Session{Client: "t", On: true, Next: 1})
	mustPacket(t, "the last one", b, "t", connect("t", false), after, to("t", connack(false)))
}

// Who has no session, or is away, is heard only when it connects.
func TestL3WhoIsNotThere(t *testing.T) {
	for _, client := range []string{"cy", "dan", "new", "a"} {
		for _, p := range allKinds() {
			if p.Kind != api.Connect {
				mustPacket(t, client, some(), client, p, some(), nil)
			}
		}
	}
}

// allKinds: one packet of each, and more that do something.
func allKinds() []api.Packet {
	return []api.Packet{
		connect("ann", false), connect("ann", true), connack(true), {Kind: api.Connack, Code: 5},
		publish("a/b", "p", 0, 0), publish("a/b", "p", 1, 9), retain(publish("a/b", "p", 0, 0)), retain(publish("a/b", "", 1, 9)), retain(publish("new", "p", 1, 9)),
		puback(2), puback(5), puback(99), subscribe(1, ask("#", 1), ask("a", 0)), suback(1, 0, 1, api.Failed), unsubscribe(1, "#", "a/b"), {Kind: api.Unsuback, Id: 1},
		{Kind: api.Pingreq}, {Kind: api.Pingresp}, {Kind: api.Disconnect},
	}
}

// What only a broker sends is heard by none.
func TestL3AllOthers(t *testing.T) {
	for _, p := range []api.Packet{connack(true), connack(false), {Kind: api.Connack, Code: 5}, suback(1, 0, 1, api.Failed), {Kind: api.Unsuback, Id: 1}, {Kind: api.Pingresp}} {
		for _, client := range []string{"ann", "bob"} {
			mustPacket(t, client, some(), client, p, some(), nil)
		}
	}
}

func TestL3Puback(t *testing.T) {
	b := but(func(b *api.Broker) {
		b.Sessions[0].Flights = []api.Flight{flight(2, "f2"), flight(3, "f3"), flight(7, "f7")}
		b.Sessions[0].Queue = []api.Flight{flight(0, "q1"), flight(0, "q2")}
	})
	after := but(func(b *api.Broker) {
		b.Sessions[0].Flights = []api.Flight{flight(2, "f2"), flight(7, "f7"), flight(3, "q1")}
		b.Sessions[0].Queue = []api.Flight{flight(0, "q2")}
		b.Sessions[0].Next = 4
	})
	mustPacket(t, "one of three", b, "ann", puback(3), after, to("ann", publish("a/b", "q1", 1, 3)))
	for _, id := range []int{1, 4, 65535} {
		mustPacket(t, "none", b, "ann", puback(id), b, nil)
	}
	mustPacket(t, "another client's", b, "bob", puback(2), b, nil)
	after = but(func(b *api.Broker) { b.Sessions[0].Flights = nil })
	mustPacket(t, "all", some(), "ann", puback(2), after, nil)
}

func TestL3Publish(t *testing.T) {
	b := quiet()
	mustPacket(t, "of Qos 0", b, "ann", publish("a", "p", 0, 0), b, nil)
	for _, id := range []int{1, 2, 65535} {
		mustPacket(t, "of Qos 1", b, "ann", publish("a", "p", 1, id), b, to("ann", puback(id)))
		mustPacket(t, "of Qos 1, again", b, "ann", again(publish("a", "p", 1, id)), b, to("ann", puback(id)))
	}
	// It is kept ahead of being told: what is sent on is no retained one.
	after := but(func(b *api.Broker) {
		b.Kept[0] = api.Kept{Topic: "a", Payload: "new", Version: 2}
	})
	mustPacket(t, "retained", some(), "bob", retain(publish("a", "new", 0, 0)), after, to("ann", publish("a", "new", 0, 0)))
}

func TestL3Subscribe(t *testing.T) {
	kept := func(i int) api.Packet {
		return retain(publish(some().Kept[i].Topic, some().Kept[i].Payload, 0, 0))
	}
	wants := some().Wants
	for _, c := range []struct {
		what  string
		asks  []api.Ask
		codes []int
		wants []api.Want
		kept  []api.Packet
	}{
		{"a new one", []api.Ask{ask("z", 1)}, []int{1}, []api.Want{wants[0], wants[1], wants[2], want("bob", "z", 1), wants[3], wants[4]}, nil},
		{"of what is kept", []api.Ask{ask("a/#", 1)}, []int{1}, []api.Want{wants[0], wants[1], want("bob", "a/#", 1), wants[2], wants[3], wants[4]}, []api.Packet{kept(0), kept(1)}},
		{"one that was", []api.Ask{ask("a/b", 1)}, []int{1}, []api.Want{wants[0], wants[1], want("bob", "a/b", 1), wants[3], wants[4]}, []api.Packet{kept(1)}},
		{"several", []api.Ask{ask("c", 1), ask("none", 0), ask("+", 0)}, []int{1, 0, 0}, []api.Want{wants[0], wants[1], want("bob", "+", 0), wants[2], want("bob", "c", 1), want("bob", "none", 0), wants[3], wants[4]}, []api.Packet{kept(2), kept(0), kept(2)}},
		{"one twice", []api.Ask{ask("c", 1), ask("c", 0)}, []int{1, 0}, []api.Want{wants[0], wants[1], wants[2], want("bob", "c", 0), wants[3], wants[4]}, []api.Packet{kept(2), kept(2)}},
	} {
		after := some()
		after.Wants = c.wants
		mustPacket(t, c.what, some(), "bob", subscribe(65535, c.asks...), after, join(to("bob", suback(65535, c.codes...)), to("bob", c.kept...)))
	}
}

// An ask for which there is no room fails, and brings nothing; one that stands there needs none.
func TestL3SubscribeWithoutRoom(t *testing.T) {
	full := func() api.Broker {
		return but(func(b *api.Broker) { b.Wants = append(wantsMany(api.MaxWants-3), b.Wants[2:]...) })
	}
	after := full()
	after.Wants[api.MaxWants-3].Ask.Qos = 1
	mustPacket(t, "no room", full(), "bob", subscribe(4, ask("a", 1), ask("a/b", 1), ask("#", 0)), after,
		to("bob", suback(4, api.Failed, 1, api.Failed), retain(publish("a/b", "two", 0, 0))))

	// Room for one: the first one has it.
	ahead := full().Wants[1:17]
	b := full()
	b.Wants = append(append([]api.Want{}, ahead...), b.Wants[17:]...)
	after = full()
	after.Wants = append(append([]api.Want{}, ahead...), want("bob", "a", 1), want("bob", "a/b", 0), want("cy", "a/b", 1), want("dan", "a/b", 1))
	mustPacket(t, "room for one", b, "bob", subscribe(4, ask("a", 1), ask("c", 1), ask("a", 1)), after,
		to("bob", suback(4, 1, api.Failed, 1), retain(publish("a", "one", 0, 0)), retain(publish("a", "one", 0, 0))))
}

func TestL3Unsubscribe(t *testing.T) {
	for _, c := range []struct {
		what    string
		filters []string
		wants   []api.Want
	}{
		{"one", []string{"#"}, some().Wants[1:]},
		{"all", []string{"a/+", "#"}, some().Wants[2:]},
		{"none", []string{"a/b"}, some().Wants},
		{"one of several", []string{"no", "a/+", "a/+", "+/+"}, append(some().Wants[:1], some().Wants[2:]...)},
	} {
		after := some()
		after.Wants = c.wants
		mustPacket(t, c.what, some(), "ann", unsubscribe(6, c.filters...), after, to("ann", api.Packet{Kind: api.Unsuback, Id: 6}))
	}
}

func TestL3Pingreq(t *testing.T) {
	for _, client := range []string{"ann", "bob"} {
		mustPacket(t, client, some(), client, api.Packet{Kind: api.Pingreq}, some(), to(client, api.Packet{Kind: api.Pingresp}))
	}
}

// left: some broker after a client has gone.
func left(client string) api.Broker {
	return but(func(b *api.Broker) {
		switch client {
		case "ann":
			b.Sessions[0].On = false
		case "bob":
			b.Sessions = append(b.Sessions[:1], b.Sessions[2:]...)
			b.Wants = append(b.Wants[:2], b.Wants[3:]...)
		case "dan":
			b.Sessions, b.Wants = b.Sessions[:3], b.Wants[:4]
		}
	})
}

func TestL3Disconnect(t *testing.T) {
	for _, client := range []string{"ann", "bob"} {
		mustPacket(t, client, some(), client, api.Packet{Kind: api.Disconnect}, left(client), nil)
	}
}

// Who is away goes too: if it was clean, there is nothing of it any more.
func TestL3Gone(t *testing.T) {
	for _, client := range []string{"ann", "bob", "cy", "dan", "new", "an", x(20), "!~"} {
		got, e := broker.Gone(some(), client)
		if e != api.OK {
			t.Errorf("Gone(%q) is %d", client, e)
		}
		must(t, client, got, nil, left(client), nil)
	}
	// What flew and what waited of who is clean and there is gone with it.
	b := but(func(b *api.Broker) {
		b.Sessions[1].Flights = []api.Flight{flight(1, "x"), flight(2, "y"), flight(3, "z")}
		b.Sessions[1].Queue = []api.Flight{flight(0, "q")}
	})
	got, e := broker.Gone(b, "bob")
	must(t, "bob", got, nil, left("bob"), nil)
	if e != api.OK {
		t.Errorf("Gone is %d", e)
	}
	got, e = broker.Gone(api.Broker{}, "ann")
	if !isZero(got, nil) || e != api.OK {
		t.Errorf("Gone of nothing is %s %d", show(got, nil), e)
	}
}

func TestL3Errors(t *testing.T) {
	names := []string{"", " ", "a b", "ann\x00", "\x7f", "\xff", "\xc3\xa9", x(21), x(999)}
	for _, client := range names {
		for _, p := range []api.Packet{{Kind: api.Pingreq}, connect("ann", true), {}, {Kind: 99}, {Kind: api.Connect, Client: x(21)}, publish("a", x(201), 0, 0)} {
			if b, sent, e := broker.Packet(some(), client, p); !isZero(b, sent) || e != api.ErrForm {
				t.Errorf("Packet(%q, %+v) is %s %d", client, p, show(b, sent), e)
			}
		}
		if b, e := broker.Gone(some(), client); !isZero(b, nil) || e != api.ErrForm {
			t.Errorf("Gone(%q) is %s %d", client, show(b, nil), e)
		}
	}
	for _, c := range []struct {
		p    api.Packet
		want api.Errno
	}{
		{api.Packet{}, api.ErrKind},
		{api.Packet{Kind: 15}, api.ErrKind},
		{api.Packet{Kind: math.MinInt}, api.ErrKind},
		{api.Packet{Kind: api.Pingreq, Id: 1}, api.ErrForm},
		{connect(x(21), true), api.ErrMany},
		{connect("", true), api.ErrForm},
		{api.Packet{Kind: api.Connect, Client: "ann", Keep: -1}, api.ErrRange},
		{api.Packet{Kind: api.Connack, Code: 6}, api.ErrRange},
		{api.Packet{Kind: api.Connack, Code: 1, Session: true}, api.ErrState},
		{publish("#", "p", 0, 0), api.ErrForm},
		{publish("a", x(201), 0, 0), api.ErrMany},
		{publish("a", "p", 2, 1), api.ErrRange},
		{publish("a", "p", 0, 1), api.ErrForm},
		{publish("a", "p", 1, 0), api.ErrRange},
		{puback(0), api.ErrRange},
		{subscribe(1), api.ErrForm},
		{subscribe(1, ask("a+", 0)), api.ErrForm},
		{subscribe(1, ask("a", 2)), api.ErrRange},
		{subscribe(1, make([]api.Ask, 6)...), api.ErrMany},
		{unsubscribe(0, "a"), api.ErrRange},
		{suback(1, 2), api.ErrRange},
	} {
		for _, client := range []string{"ann", "bob", "cy", "new"} { // whether it is there or not
			if b, sent, e := broker.Packet(some(), client, c.p); !isZero(b, sent) || e != c.want {
				t.Errorf("Packet(%q, %+v) is %s %d, must be %d", client, c.p, show(b, sent), e, c.want)
			}
		}
	}
}
