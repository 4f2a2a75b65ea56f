package broker_test

import (
	"math"
	"testing"

	"dragoman/api"
	"dragoman/broker"
)

type spoiled struct {
	b    api.Broker
	want api.Errno
}

// spoiling in one way, and what is said of it.
type spoiling struct {
	change func(b *api.Broker)
	want   api.Errno
}

// spoilings in the order in which they are told.
func spoilings() []spoiling {
	return []spoiling{
		{func(b *api.Broker) { b.Kept = append(b.Kept, api.Kept{Topic: "z"}) }, api.ErrForm},
		{func(b *api.Broker) { b.Wants[0].Ask.Qos = 2 }, api.ErrRange},
		{func(b *api.Broker) { b.Sessions = append(b.Sessions, make([]api.Session, 3)...) }, api.ErrMany},
		{func(b *api.Broker) { b.Sessions[0].Flights[0].Topic = "#" }, api.ErrForm},
		{func(b *api.Broker) { b.Sessions[1].Client = "ann" }, api.ErrState},
		{func(b *api.Broker) { b.Sessions[3].Next = 0 }, api.ErrRange},
		{func(b *api.Broker) { b.Watches[2] = b.Watches[0] }, api.ErrTwice},
		{func(b *api.Broker) { b.Wants = append(b.Wants, want("zed", "a", 0)) }, api.ErrState},
		{func(b *api.Broker) { b.Next = 65536 }, api.ErrRange},
	}
}

func wrong() []spoiled {
	all := []spoiled{
		{api.Broker{Kept: make([]api.Kept, api.MaxKept+1)}, api.ErrMany},
		{api.Broker{Kept: keptMany(api.MaxKept + 1)}, api.ErrMany},
		{api.Broker{Wants: make([]api.Want, api.MaxWants+1)}, api.ErrMany},
		{api.Broker{Sessions: make([]api.Session, api.MaxSessions+1)}, api.ErrMany}, // ahead of what is wrong with each
		{api.Broker{Sessions: sessionsMany(api.MaxSessions + 1)}, api.ErrMany},
		{api.Broker{Watches: make([]api.Watch, api.MaxWatches+1)}, api.ErrMany},
		{api.Broker{Next: -1}, api.ErrRange},
		{api.Broker{Next: 65536}, api.ErrRange},
		{api.Broker{Next: math.MaxInt}, api.ErrRange},
		{api.Broker{Next: math.MinInt}, api.ErrRange},
		{but(func(b *api.Broker) { b.Kept[0], b.Kept[1] = b.Kept[1], b.Kept[0] }), api.ErrState},
		{but(func(b *api.Broker) { b.Kept[0].Version = 0 }), api.ErrRange},
		{but(func(b *api.Broker) { b.Wants[0], b.Wants[1] = b.Wants[1], b.Wants[0] }), api.ErrState},
		{but(func(b *api.Broker) { b.Wants[0].Ask.Filter = x(61) }), api.ErrMany},
		{but(func(b *api.Broker) { b.Wants[0].Client = "" }), api.ErrForm},
	}
	return append(all, wrongInside()...)
}

func wrongInside() []spoiled {
	return []spoiled{
		{but(func(b *api.Broker) { b.Sessions[0].Client = "" }), api.ErrForm},
		{but(func(b *api.Broker) { b.Sessions[2].Next = 65536 }), api.ErrRange},
		{but(func(b *api.Broker) { b.Sessions[2].Flights[1].Id = 5 }), api.ErrTwice},
		{but(func(b *api.Broker) { b.Sessions[2].On = true }), api.ErrState},      // what waits could fly
		{but(func(b *api.Broker) { b.Sessions[2].Clean = true }), api.ErrState},   // away, clean, and has flights
		{but(func(b *api.Broker) { b.Sessions[1].Client = "ann" }), api.ErrState}, // no two of one client
		{but(func(b *api.Broker) { b.Sessions[0].Client, b.Sessions[1].Client = "bob", "ann" }), api.ErrState},
		{but(func(b *api.Broker) { b.Sessions[1].Client, b.Wants = "Bob", nil }), api.ErrState}, // by bytes
		{but(func(b *api.Broker) { b.Sessions[0].Client, b.Sessions[1].Client, b.Wants = "bobo", "bob", nil }), api.ErrState},
		{but(func(b *api.Broker) { b.Sessions[1].Client, b.Sessions[1].Next = "ann", 0 }), api.ErrRange},   // all of one ahead of its place
		{but(func(b *api.Broker) { b.Sessions[1].Client, b.Sessions[2].Next = "ann", 0 }), api.ErrState},   // one by one
		{but(func(b *api.Broker) { b.Sessions[1].Next, b.Sessions[2].Client = 0, "ann" }), api.ErrRange},   // likewise
		{but(func(b *api.Broker) { b.Sessions, b.Wants = b.Sessions[:3], b.Wants[:5] }), api.ErrState},     // dan wants, and has no session
		{but(func(b *api.Broker) { b.Sessions = nil }), api.ErrState},                                      // likewise, all
		{but(func(b *api.Broker) { b.Sessions = b.Sessions[1:] }), api.ErrState},                           // likewise, the first one
		{but(func(b *api.Broker) { b.Wants = append(b.Wants, want("dann", "#", 0)) }), api.ErrState},       // by all of the name
		{but(func(b *api.Broker) { b.Kept = nil }), api.ErrState},                                          // watched, and not kept
		{but(func(b *api.Broker) { b.Kept = b.Kept[:2] }), api.ErrState},                                   // likewise, the one in the middle
		{but(func(b *api.Broker) { b.Watches[2].Topic = "a/" }), api.ErrState},                             // likewise, the last one
		{but(func(b *api.Broker) { b.Watches[0].Topic = "a/b/c" }), api.ErrState},                          // likewise, the first one
		{but(func(b *api.Broker) { b.Watches[0].Topic = "#" }), api.ErrForm},                               // no filter
		{but(func(b *api.Broker) { b.Watches[0].Number = -1 }), api.ErrRange},                              // of chapter 11
		{but(func(b *api.Broker) { b.Watches[0].Peer = 10 }), api.ErrRange},                                // likewise
		{but(func(b *api.Broker) { b.Watches[0].Token = x(9) }), api.ErrMany},                              // likewise
		{but(func(b *api.Broker) { b.Watches[0].Peer, b.Watches[0].Token = 2, "u" }), api.ErrTwice},        // likewise
		{but(func(b *api.Broker) { b.Watches[0].Topic, b.Next = "no", -1 }), api.ErrState},                 // ahead of Next
		{but(func(b *api.Broker) { b.Watches[0].Topic, b.Watches[1].Token = "no", x(9) }), api.ErrMany},    // of chapter 11 ahead
		{but(func(b *api.Broker) { b.Sessions, b.Watches[1].Token = b.Sessions[:3], x(9) }), api.ErrMany},  // likewise
		{but(func(b *api.Broker) { b.Sessions, b.Watches[1].Number = b.Sessions[:3], -1 }), api.ErrRange},  // likewise
		{but(func(b *api.Broker) { b.Sessions, b.Sessions[0].Next = b.Sessions[:3], 0 }), api.ErrRange},    // of chapter 10 ahead
		{but(func(b *api.Broker) { b.Sessions, b.Kept[2].Payload = b.Sessions[:3], "" }), api.ErrForm},     // of chapter 8 ahead
		{but(func(b *api.Broker) { b.Wants[4].Client, b.Wants[4].Ask.Filter = "zed", "+a" }), api.ErrForm}, // of chapter 9 ahead
		{but(func(b *api.Broker) { b.Wants, b.Sessions = nil, sessionsMany(api.MaxSessions+1) }), api.ErrMany},
	}
}

func TestL1Check(t *testing.T) {
	for _, b := range []api.Broker{
		{},
		{Kept: []api.Kept{}, Wants: []api.Want{}, Sessions: []api.Session{}, Watches: []api.Watch{}},
		{Next: 65535},
		{Kept: keptMany(api.MaxKept), Sessions: sessionsMany(api.MaxSessions)},
		some(),
		but(func(b *api.Broker) { b.Wants = nil }), // a session may be there without a want
		but(func(b *api.Broker) { b.Watches = nil }),
		but(func(b *api.Broker) { b.Wants, b.Sessions = nil, nil }),
		but(func(b *api.Broker) { b.Kept, b.Watches = nil, nil }),
		but(func(b *api.Broker) { b.Wants = append(wantsMany(api.MaxWants-3), b.Wants[2:]...) }),
		but(func(b *api.Broker) { b.Watches = watchesMany(api.MaxWatches) }),
		but(func(b *api.Broker) { b.Sessions = append(sessionsAhead(), b.Sessions...) }),
	} {
		if e := broker.Check(b); e != api.OK {
			t.Errorf("Check(%s) is %d", show(b, nil), e)
		}
	}
	for i, c := range wrong() {
		if e := broker.Check(c.b); e != c.want {
			t.Errorf("%d: Check(%s) is %d, must be %d", i, show(c.b, nil), e, c.want)
		}
	}
}

// sessionsAhead of ann's by bytes.
func sessionsAhead() []api.Session {
	return []api.Session{{Client: "Zed", Next: 1}, {Client: "an", Next: 65535}}
}

// Of two things that are wrong, the one that the promise names first is told.
func TestL1OrderOfErrors(t *testing.T) {
	all := spoilings()
	for i, first := range all {
		if e := broker.Check(but(first.change)); e != first.want {
			t.Errorf("%d: Check is %d, must be %d", i, e, first.want)
		}
		for j, second := range all[i+1:] {
			b := but(func(b *api.Broker) {
				second.change(b)
				first.change(b)
			})
			if e := broker.Check(b); e != first.want {
				t.Errorf("%d and %d: Check is %d, must be %d", i, i+1+j, e, first.want)
			}
		}
	}
}

// What is wrong with a broker is told ahead of all else.
func TestL1WrongBrokersAreTold(t *testing.T) {
	for i, c := range wrong() {
		for _, client := range []string{"ann", "new", "", "a b"} {
			for _, p := range []api.Packet{connect("ann", true), {Kind: api.Pingreq}, {}, publish("#", "", 0, 0)} {
				if b, sent, e := broker.Packet(c.b, client, p); !isZero(b, sent) || e != c.want {
					t.Errorf("%d: Packet(%q, %+v) is %s %d, must be %d", i, client, p, show(b, sent), e, c.want)
				}
			}
			if b, e := broker.Gone(c.b, client); !isZero(b, nil) || e != c.want {
				t.Errorf("%d: Gone(%q) is %s %d, must be %d", i, client, show(b, nil), e, c.want)
			}
		}
		for _, peer := range []int{0, 9, 10, -1} {
			for _, m := range []api.Message{{}, {Kind: 9}, asks(api.Con, api.CodeGet, 1, "", "a", "")} {
				if b, sent, e := broker.Message(c.b, peer, m); !isZero(b, sent) || e != c.want {
					t.Errorf("%d: Message(%d, %+v) is %s %d, must be %d", i, peer, m, show(b, sent), e, c.want)
				}
			}
		}
	}
}

func isZero(b api.Broker, sent []api.Sent) bool {
	return len(b.Kept)+len(b.Wants)+len(b.Sessions)+len(b.Watches)+len(sent) == 0 && b.Next == 0
}
