package session_test

import (
	"fmt"
	"math"
	"reflect"
	"strings"
	"testing"
	"unsafe"

	"dragoman/api"
	"dragoman/packet"
	"dragoman/session"
)

func x(n int) string { return strings.Repeat("x", n) }

// flies: a flight by an Id, on topic t, with the Id as payload.
func flies(id int) api.Flight { return api.Flight{Id: id, Topic: "t", Payload: fmt.Sprint(id)} }

// waits: what has no Id yet.
func waits(payload string) api.Flight { return api.Flight{Topic: "t", Payload: payload} }

func list(all ...api.Flight) []api.Flight { return all }

// fleet: flights by these Ids.
func fleet(ids ...int) []api.Flight {
	var all []api.Flight
	for _, id := range ids {
		all = append(all, flies(id))
	}
	return all
}

// line: so many that wait, "a", "b" and so on.
func line(n int) []api.Flight {
	var all []api.Flight
	for i := range n {
		all = append(all, waits(string(rune('a'+i))))
	}
	return all
}

const (
	on    = 1
	clean = 2
)

func of(how int, flights, queue []api.Flight, next int) api.Session {
	return api.Session{Client: "ann", On: how&on != 0, Clean: how&clean != 0, Flights: flights, Queue: queue, Next: next}
}

// sure: a Publish of Qos 1.
func sure(id int, payload string) api.Packet {
	return api.Packet{Kind: api.Publish, Qos: 1, Id: id, Topic: "t", Payload: payload}
}

// again: the Publish of a flight, with Dup.
func again(id int) api.Packet {
	p := sure(id, fmt.Sprint(id))
	p.Dup = true
	return p
}

func packets(all ...api.Packet) []api.Packet { return all }

// show what is the same, if an empty list is nil or not.
func show(s api.Session, p []api.Packet) string { return fmt.Sprintf("%+v %+v", s, p) }

type spoiled struct {
	s    api.Session
	want api.Errno
}

// named: a right session of a client that is called so.
func named(client string) api.Session { return api.Session{Client: client, Next: 1} }

func wrong() []spoiled {
	all := wrongNames()
	all = append(all, wrongFlights()...)
	all = append(all, wrongQueues()...)
	return append(all, wrongStates()...)
}

func wrongNames() []spoiled {
	return []spoiled{
		{api.Session{}, api.ErrForm},
		{named(""), api.ErrForm},
		{named(x(21)), api.ErrForm},
		{named(" "), api.ErrForm},
		{named("a b"), api.ErrForm},
		{named("a\x7f"), api.ErrForm},
		{named("\x00"), api.ErrForm},
		{named("\xc3\xa9"), api.ErrForm},
		{api.Session{Flights: make([]api.Flight, 4)}, api.ErrForm}, // ahead of all else
		{api.Session{Client: x(21), Queue: make([]api.Flight, 7), Next: -1}, api.ErrForm},
		{of(0, fleet(1, 2, 3, 4), nil, 1), api.ErrMany},
		{of(0, nil, line(7), 1), api.ErrMany},
		{of(on, fleet(1, 2, 3), line(7), 1), api.ErrMany},
		{of(0, make([]api.Flight, 4), nil, 0), api.ErrMany}, // ahead of what is wrong with each
		{of(0, nil, make([]api.Flight, 7), 0), api.ErrMany},
		{of(0, fleet(0, 0), line(7), 0), api.ErrMany}, // of the Queue too ahead of each Flight
		{of(clean, fleet(1, 2, 3, 4), nil, 1), api.ErrMany},
	}
}

func wrongFlights() []spoiled {
	bad := func(id int, name, payload string) api.Session {
		return of(0, list(flies(9), api.Flight{Id: id, Topic: name, Payload: payload}), nil, 1)
	}
	return []spoiled{
		{bad(1, "", ""), api.ErrForm},
		{bad(1, "#", ""), api.ErrForm},
		{bad(1, "a/+", ""), api.ErrForm},
		{bad(1, "a b", ""), api.ErrForm},
		{bad(1, x(61), ""), api.ErrMany},
		{bad(1, "a/b/c/d/e/f/g", ""), api.ErrMany},
		{bad(0, "#", x(201)), api.ErrForm}, // the topic ahead of the payload
		{bad(0, x(61), x(201)), api.ErrMany},
		{bad(1, "a", x(201)), api.ErrMany},
		{bad(0, "a", x(201)), api.ErrMany}, // this ahead of the Id
		{bad(9, "a", x(201)), api.ErrMany},
		{bad(0, "a", ""), api.ErrRange},
		{bad(-1, "a", ""), api.ErrRange},
		{bad(65536, "a", ""), api.ErrRange},
		{bad(math.MaxInt, "a", ""), api.ErrRange},
		{bad(math.MinInt, "a", ""), api.ErrRange},
		{bad(9, "a", ""), api.ErrTwice},
		{bad(9, "", ""), api.ErrForm},
		{of(0, fleet(1, 2, 1), nil, 1), api.ErrTwice}, // any one ahead
		{of(0, fleet(1, 2, 2), nil, 1), api.ErrTwice},
		{of(on, fleet(65535, 65535), nil, 1), api.ErrTwice},
		{of(0, fleet(0, 0), nil, 1), api.ErrRange}, // ahead of ErrTwice
		{of(0, list(flies(0), api.Flight{}), nil, 1), api.ErrRange},
		{of(0, list(flies(1), flies(1), api.Flight{Topic: x(61)}), nil, 1), api.ErrTwice}, // each by itself, the first one tells
		{of(0, list(flies(1), api.Flight{Topic: x(61)}, flies(1)), nil, 1), api.ErrMany},
		{of(0, list(flies(1), flies(-1), flies(1)), nil, 1), api.ErrRange},
		{of(0, fleet(1, 1), list(waits(x(201))), 1), api.ErrTwice}, // Flights first
		{of(0, fleet(0), list(api.Flight{}), 1), api.ErrRange},
		{of(0, fleet(1, 1), nil, 0), api.ErrTwice},     // ahead of Next
		{of(clean, fleet(1, 1), nil, 1), api.ErrTwice}, // and of how it is
	}
}

func wrongQueues() []spoiled {
	bad := func(id int, name, payload string) api.Session {
		return of(0, fleet(1), list(waits("p"), api.Flight{Id: id, Topic: name, Payload: payload}), 1)
	}
	return []spoiled{
		{bad(0, "", ""), api.ErrForm},
		{bad(0, "#", ""), api.ErrForm},
		{bad(0, "a b", ""), api.ErrForm},
		{bad(0, x(61), ""), api.ErrMany},
		{bad(0, "a/b/c/d/e/f/g", ""), api.ErrMany},
		{bad(1, "+", x(201)), api.ErrForm},
		{bad(0, "a", x(201)), api.ErrMany},
		{bad(1, "a", x(201)), api.ErrMany}, // ahead of the Id
		{bad(1, x(61), ""), api.ErrMany},
		{bad(1, "a", ""), api.ErrForm},
		{bad(2, "a", ""), api.ErrForm},
		{bad(-1, "a", ""), api.ErrForm},
		{bad(65536, "a", ""), api.ErrForm},
		{of(0, nil, list(flies(1), waits(x(201))), 1), api.ErrForm}, // each by itself, the first one tells
		{of(0, nil, list(waits(x(201)), flies(1)), 1), api.ErrMany},
		{of(0, nil, append(line(5), flies(7)), 1), api.ErrForm}, // the last one too
		{of(0, nil, list(flies(1)), 0), api.ErrForm},            // ahead of Next
		{of(0, nil, list(waits(x(201))), 0), api.ErrMany},
		{of(on, nil, list(flies(1)), 1), api.ErrForm}, // and of how it is
		{of(clean, nil, list(waits(x(201))), 1), api.ErrMany},
	}
}

func wrongStates() []spoiled {
	return []spoiled{
		{of(0, nil, nil, 0), api.ErrRange},
		{of(on, nil, nil, -1), api.ErrRange},
		{of(on, fleet(1), nil, 65536), api.ErrRange},
		{of(0, nil, nil, math.MaxInt), api.ErrRange},
		{of(0, nil, nil, math.MinInt), api.ErrRange},
		{of(clean, fleet(1), nil, 0), api.ErrRange}, // ahead of how it is
		{of(on, nil, line(1), 0), api.ErrRange},
		{of(clean, fleet(1), nil, 1), api.ErrState},
		{of(clean, nil, line(1), 1), api.ErrState},
		{of(clean, fleet(1, 2, 3), line(6), 1), api.ErrState},
		{of(on, nil, line(1), 1), api.ErrState},
		{of(on, fleet(1, 2), line(1), 1), api.ErrState},
		{of(on|clean, fleet(1, 2), line(6), 1), api.ErrState},
	}
}

// right sessions, of every kind.
func right() []api.Session {
	return []api.Session{
		named("a"),
		named(x(20)),
		named("!~"), // bytes 33 and 126
		of(0, nil, nil, 65535),
		of(on, nil, nil, 1),
		of(clean, nil, nil, 1),
		of(on|clean, nil, nil, 1),
		of(clean, list(), list(), 1),
		of(on, fleet(1), nil, 1), // Next may be a Flight's
		of(on, fleet(3, 1, 2), nil, 9),
		of(on|clean, fleet(65535, 1), nil, 2),
		of(on, fleet(1, 2, 3), line(1), 4),
		of(on, fleet(1, 2, 3), line(6), 4),
		of(on|clean, fleet(1, 2, 3), line(5), 4),
		of(0, nil, line(1), 1), // it is not On: what waits does not fly
		of(0, fleet(1), line(6), 1),
		of(0, fleet(1, 2), line(3), 1),
		of(0, fleet(1, 2, 3), line(6), 65535),
		of(0, list(api.Flight{Id: 65535, Topic: x(60), Payload: x(200)}), list(api.Flight{Topic: "a/b/c/d/e/f", Payload: x(200)}), 1),
		of(0, list(api.Flight{Id: 1, Topic: "/"}, api.Flight{Id: 2, Topic: "/"}), list(api.Flight{Topic: "a"}, api.Flight{Topic: "a"}), 1), // the same twice, by other Ids
	}
}

func TestJ1Check(t *testing.T) {
	for _, s := range right() {
		if e := session.Check(s); e != api.OK {
			t.Errorf("Check(%+v) is %d", s, e)
		}
	}
	for _, c := range wrong() {
		if e := session.Check(c.s); e != c.want {
			t.Errorf("Check(%+v) is %d, must be %d", c.s, e, c.want)
		}
	}
}

func TestJ1EachByteOfAName(t *testing.T) {
	for c := range 256 {
		want := api.ErrForm
		if c >= 33 && c <= 126 {
			want = api.OK
		}
		for _, client := range []string{string([]byte{byte(c)}), string([]byte{byte(c), 'b'}), string([]byte{'a', byte(c)})} {
			if e := session.Check(named(client)); e != want {
				t.Errorf("Check of client %q is %d, must be %d", client, e, want)
			}
		}
	}
}

func isZero(s api.Session, p []api.Packet) bool {
	return reflect.DeepEqual(s, api.Session{}) && len(p) == 0
}

// What is wrong with a session is told ahead of all else.
func TestJ2WrongSessionsAreTold(t *testing.T) {
	for _, c := range wrong() {
		for _, name := range []string{"a", "", "#", x(61)} {
			for _, payload := range []string{"", x(201)} {
				for _, qos := range []int{0, 1, 2} {
					if s, p, e := session.Send(c.s, name, payload, qos); !isZero(s, p) || e != c.want {
						t.Errorf("Send(%+v, %q, %q, %d) is %v %v %d, must be %d", c.s, name, payload, qos, s, p, e, c.want)
					}
				}
			}
		}
		for _, id := range []int{-1, 0, 1, 9, 65536} {
			if s, p, e := session.Landed(c.s, id); !isZero(s, p) || e != c.want {
				t.Errorf("Landed(%+v, %d) is %v %v %d, must be %d", c.s, id, s, p, e, c.want)
			}
		}
		if s, p, e := session.Come(c.s); !isZero(s, p) || e != c.want {
			t.Errorf("Come(%+v) is %v %v %d, must be %d", c.s, s, p, e, c.want)
		}
		if s, e := session.Go(c.s); !isZero(s, nil) || e != c.want {
			t.Errorf("Go(%+v) is %v %d, must be %d", c.s, s, e, c.want)
		}
	}
}

func TestJ2SendErrors(t *testing.T) {
	for _, s := range right() {
		for _, c := range []struct {
			name, payload string
			qos           int
			want          api.Errno
		}{
			{"", "p", 0, api.ErrForm},
			{"", "p", 1, api.ErrForm},
			{"#", "p", 1, api.ErrForm},
			{"a/+", "p", 0, api.ErrForm},
			{"a b", "p", 1, api.ErrForm},
			{x(61), "p", 1, api.ErrMany},
			{"a/b/c/d/e/f/g", "p", 0, api.ErrMany},
			{"#", x(201), 2, api.ErrForm}, // the topic first
			{x(61), "", 2, api.ErrMany},
			{"a", x(201), 0, api.ErrMany},
			{"a", x(201), 1, api.ErrMany},
			{"a", x(201), 2, api.ErrMany}, // then the payload
			{"a", "p", 2, api.ErrRange},
			{"a", "", -1, api.ErrRange},
			{"a", x(200), api.Failed, api.ErrRange},
			{"a", "p", math.MaxInt, api.ErrRange},
			{"a", "p", math.MinInt, api.ErrRange},
		} {
			if got, p, e := session.Send(s, c.name, c.payload, c.qos); !isZero(got, p) || e != c.want {
				t.Errorf("Send(%+v, %q, %q, %d) is %v %v %d, must be %d", s, c.name, c.payload, c.qos, got, p, e, c.want)
			}
		}
	}
}

func TestJ2SendOfQos0(t *testing.T) {
	for _, s := range right() {
		for _, payload := range []string{"", "p", x(200)} {
			var sent []api.Packet
			if s.On {
				sent = packets(api.Packet{Kind: api.Publish, Topic: "a/b", Payload: payload})
			}
			got, p, e := session.Send(s, "a/b", payload, 0)
			if show(got, p) != show(s, sent) || e != api.OK {
				t.Errorf("Send(%+v, %q) is %s %d, must be %s", s, payload, show(got, p), e, show(s, sent))
			}
		}
	}
}

func TestJ2SendOfQos1(t *testing.T) {
	for i, c := range []struct {
		s, want api.Session
		sent    []api.Packet
	}{
		{of(on, nil, nil, 1), of(on, fleet(1), nil, 2), packets(sure(1, "1"))},
		{of(on|clean, nil, nil, 1), of(on|clean, fleet(1), nil, 2), packets(sure(1, "1"))},
		{of(on, fleet(7), nil, 1), of(on, fleet(7, 1), nil, 2), packets(sure(1, "1"))}, // the last Flight, whatever its Id
		{of(on, fleet(7, 9), nil, 1), of(on, fleet(7, 9, 1), nil, 2), packets(sure(1, "1"))},
		{of(on, fleet(7, 8, 9), nil, 1), of(on, fleet(7, 8, 9), list(waits("1")), 1), nil},
		{of(on|clean, fleet(7, 8, 9), nil, 1), of(on|clean, fleet(7, 8, 9), list(waits("1")), 1), nil},
		{of(on, fleet(7, 8, 9), line(5), 1), of(on, fleet(7, 8, 9), append(line(5), waits("1")), 1), nil},
		{of(on, fleet(7, 8, 9), line(6), 1), of(on, fleet(7, 8, 9), line(6), 1), nil}, // no room: nothing changes
		{of(on|clean, fleet(7, 8, 9), line(6), 1), of(on|clean, fleet(7, 8, 9), line(6), 1), nil},
		{of(0, nil, nil, 1), of(0, nil, list(waits("1")), 1), nil}, // it waits till the client is there
		{of(0, fleet(7), line(2), 1), of(0, fleet(7), append(line(2), waits("1")), 1), nil},
		{of(0, nil, line(5), 1), of(0, nil, append(line(5), waits("1")), 1), nil},
		{of(0, nil, line(6), 1), of(0, nil, line(6), 1), nil},
		{of(clean, nil, nil, 1), of(clean, nil, nil, 1), nil}, // nobody is there, and nothing is held
	} {
		got, p, e := session.Send(c.s, "t", "1", 1)
		if show(got, p) != show(c.want, c.sent) || e != api.OK {
			t.Errorf("%d: Send(%+v) is %s %d, must be %s", i, c.s, show(got, p), e, show(c.want, c.sent))
		}
	}
	for _, payload := range []string{"", x(200)} {
		got, p, e := session.Send(of(on, nil, nil, 5), x(60), payload, 1)
		f := api.Flight{Id: 5, Topic: x(60), Payload: payload}
		want := show(of(on, list(f), nil, 6), packets(api.Packet{Kind: api.Publish, Qos: 1, Id: 5, Topic: x(60), Payload: payload}))
		if show(got, p) != want || e != api.OK {
			t.Errorf("Send of %q is %s %d, must be %s", payload, show(got, p), e, want)
		}
	}
}

// The Id is Next, or the next one that no Flight has; then Next is one more.
func TestJ2Ids(t *testing.T) {
	for _, c := range []struct {
		ids            []int
		next, id, then int
	}{
		{nil, 1, 1, 2},
		{nil, 65534, 65534, 65535},
		{nil, 65535, 65535, 1}, // 1 behind MaxId
		{[]int{1}, 1, 2, 3},
		{[]int{1, 2}, 1, 3, 4},
		{[]int{2, 1}, 1, 3, 4},
		{[]int{1, 3}, 1, 2, 3}, // Next may be a Flight's then
		{[]int{1, 3}, 3, 4, 5},
		{[]int{2, 3}, 1, 1, 2},
		{[]int{5, 9}, 7, 7, 8},
		{[]int{65535}, 65535, 1, 2},
		{[]int{65535, 1}, 65535, 2, 3},
		{[]int{1, 65535}, 65535, 2, 3},
		{[]int{65534, 65535}, 65534, 1, 2},
		{[]int{65534}, 65534, 65535, 1},
		{[]int{65534, 1}, 65534, 65535, 1},
		{[]int{1, 2}, 65535, 65535, 1},
	} {
		want := of(on, append(fleet(c.ids...), api.Flight{Id: c.id, Topic: "t", Payload: "p"}), nil, c.then)
		got, p, e := session.Send(of(on, fleet(c.ids...), nil, c.next), "t", "p", 1)
		if show(got, p) != show(want, packets(sure(c.id, "p"))) || e != api.OK {
			t.Errorf("of %v and Next %d it is %s %d, must be Id %d, Next %d", c.ids, c.next, show(got, p), e, c.id, c.then)
		}
	}
}

func TestJ2Landed(t *testing.T) {
	a := api.Flight{Id: 4, Topic: "t", Payload: "a"}
	for i, c := range []struct {
		s    api.Session
		id   int
		want api.Session
		sent []api.Packet
	}{
		{of(on, fleet(1), nil, 4), 1, of(on, nil, nil, 4), nil},
		{of(on|clean, fleet(1, 2, 3), nil, 4), 2, of(on|clean, fleet(1, 3), nil, 4), nil}, // in whatever order they land
		{of(on, fleet(1, 2, 3), nil, 4), 1, of(on, fleet(2, 3), nil, 4), nil},
		{of(on, fleet(1, 2, 3), nil, 4), 3, of(on, fleet(1, 2), nil, 4), nil},
		{of(on, fleet(1, 2, 3), line(1), 4), 2, of(on, append(fleet(1, 3), a), nil, 5), packets(sure(4, "a"))},
		{of(on, fleet(1, 2, 3), line(6), 4), 1, of(on, append(fleet(2, 3), a), line(6)[1:], 5), packets(sure(4, "a"))}, // the first one of the Queue, and one alone
		{of(on|clean, fleet(1, 2, 3), line(6), 4), 3, of(on|clean, append(fleet(1, 2), a), line(6)[1:], 5), packets(sure(4, "a"))},
		{of(on, fleet(4, 5, 3), line(1), 4), 4, of(on, append(fleet(5, 3), a), nil, 5), packets(sure(4, "a"))}, // an Id that has landed is free
		{of(on, fleet(2, 3, 9), line(1), 2), 9, of(on, append(fleet(2, 3), a), nil, 5), packets(sure(4, "a"))}, // but one that flies is not
		{of(0, fleet(1, 2, 3), line(2), 4), 2, of(0, fleet(1, 3), line(2), 4), nil},                            // nothing flies where nobody is
		{of(0, fleet(1), nil, 4), 1, of(0, nil, nil, 4), nil},
	} {
		got, p, e := session.Landed(c.s, c.id)
		if show(got, p) != show(c.want, c.sent) || e != api.OK {
			t.Errorf("%d: Landed(%+v, %d) is %s %d, must be %s", i, c.s, c.id, show(got, p), e, show(c.want, c.sent))
		}
	}
}

// What never flew can't land: what waits has no Id, and 0 is not it.
func TestJ2LandedOfNoFlight(t *testing.T) {
	for _, s := range right() {
		for _, id := range []int{0, -1, 4, 100, 65534, 65536, math.MaxInt, math.MinInt} {
			if got, p, e := session.Landed(s, id); show(got, p) != show(s, nil) || e != api.OK {
				t.Errorf("Landed(%+v, %d) is %s %d", s, id, show(got, p), e)
			}
		}
	}
}

func TestJ2Come(t *testing.T) {
	f := func(id int, payload string) api.Flight { return api.Flight{Id: id, Topic: "t", Payload: payload} }
	for i, c := range []struct {
		s, want api.Session
		sent    []api.Packet
	}{
		{of(0, nil, nil, 4), of(on, nil, nil, 4), nil},
		{of(clean, nil, nil, 4), of(on|clean, nil, nil, 4), nil},
		{of(0, fleet(3, 1, 2), nil, 4), of(on, fleet(3, 1, 2), nil, 4), packets(again(3), again(1), again(2))}, // in order, not by Id
		{of(0, fleet(3, 1, 2), line(6), 4), of(on, fleet(3, 1, 2), line(6), 4), packets(again(3), again(1), again(2))},
		{of(0, fleet(1, 2), line(2), 4), of(on, append(fleet(1, 2), f(4, "a")), line(2)[1:], 5), packets(again(1), again(2), sure(4, "a"))}, // Dup of those that flew alone
		{of(0, fleet(1), line(2), 1), of(on, append(fleet(1), f(2, "a"), f(3, "b")), nil, 4), packets(again(1), sure(2, "a"), sure(3, "b"))},
		{of(0, nil, line(6), 65534), of(on, list(f(65534, "a"), f(65535, "b"), f(1, "c")), line(6)[3:], 2), packets(sure(65534, "a"), sure(65535, "b"), sure(1, "c"))},
		{of(0, fleet(65535), line(2), 65535), of(on, append(fleet(65535), f(1, "a"), f(2, "b")), nil, 3), packets(again(65535), sure(1, "a"), sure(2, "b"))},
		{of(on, nil, nil, 4), of(on, nil, nil, 4), nil}, // it was there: it is sent again all the same
		{of(on, fleet(2, 1), nil, 4), of(on, fleet(2, 1), nil, 4), packets(again(2), again(1))},
		{of(on|clean, fleet(1, 2, 3), line(2), 4), of(on|clean, fleet(1, 2, 3), line(2), 4), packets(again(1), again(2), again(3))},
	} {
		got, p, e := session.Come(c.s)
		if show(got, p) != show(c.want, c.sent) || e != api.OK {
			t.Errorf("%d: Come(%+v) is %s %d, must be %s", i, c.s, show(got, p), e, show(c.want, c.sent))
		}
	}
}

func TestJ2Go(t *testing.T) {
	for _, s := range right() {
		want := s
		want.On = false
		if s.Clean {
			want.Flights, want.Queue = nil, nil
		}
		if got, e := session.Go(s); show(got, nil) != show(want, nil) || e != api.OK {
			t.Errorf("Go(%+v) is %+v %d, must be %+v", s, got, e, want)
		}
	}
}

// draw numbers, the same each time.
type draw uint64

func (d *draw) n(n int) int {
	*d = *d*6364136223846793005 + 1442695040888963407
	return int(uint64(*d) >> 33 % uint64(n))
}

// client: what it was sent of Qos 1 and did not acknowledge, by Id.
type client map[int]string

// take packets: a new Id is no flight's, and what comes again is as it was.
func (c client) take(t *testing.T, sent []api.Packet) {
	for _, p := range sent {
		if e := packet.Check(p); e != api.OK {
			t.Fatalf("%+v can't be sent: %d", p, e)
		}
		was, is := c[p.Id]
		if p.Qos == 1 && (p.Dup != is || is && was != p.Payload) {
			t.Fatalf("sent is %+v, to one who has %v", p, c)
		}
		if p.Qos == 1 {
			c[p.Id] = p.Payload
		}
	}
}

// there: all that flies or waits, in order.
func there(s api.Session) []string {
	var all []string
	for _, f := range append(append([]api.Flight(nil), s.Flights...), s.Queue...) {
		all = append(all, f.Payload)
	}
	return all
}

// landed: what has that Id, and what is there without it.
func landed(pending []string, c client, id int) []string {
	var all []string
	for _, p := range pending {
		if p != c[id] {
			all = append(all, p)
		}
	}
	delete(c, id)
	return all
}

func TestJ3WhatWasSentIsThereTillItHasLandedInOrder(t *testing.T) {
	for seed := range 40 {
		d := draw(seed)
		isClean := seed%4 == 3
		s := api.Session{Client: "ann", Clean: isClean, Next: []int{1, 65530, 65535}[seed%3]}
		c := client{}
		var pending []string // what was taken, and did not land
		flown := 0
		for step := range 600 {
			var sent []api.Packet
			var e api.Errno
			was := s
			switch kind := d.n(20); {
			case kind < 9:
				payload := fmt.Sprint(step)
				if (s.On || !isClean) && len(s.Queue) < api.MaxQueue {
					pending = append(pending, payload)
				}
				s, sent, e = session.Send(s, "a/b", payload, 1)
			case kind < 11:
				s, sent, e = session.Send(s, "a/b", "once", 0)
			case kind < 17:
				id := d.n(3)
				if len(s.Flights) > 0 {
					id = s.Flights[d.n(len(s.Flights))].Id
					pending = landed(pending, c, id)
				}
				s, sent, e = session.Landed(s, id)
			case kind == 17:
				s, e = session.Go(s)
				if isClean {
					pending, c = nil, client{}
				}
			default:
				s, sent, e = session.Come(s)
			}
			if e != api.OK || session.Check(s) != api.OK {
				t.Fatalf("seed %d, step %d: of %+v it is %+v %d", seed, step, was, s, e)
			}
			if len(sent) > 0 && !s.On {
				t.Fatalf("seed %d, step %d: sent to nobody is %+v", seed, step, sent)
			}
			c.take(t, sent)
			flown += len(sent)
			if fmt.Sprint(there(s)) != fmt.Sprint(pending) {
				t.Fatalf("seed %d, step %d: it is %v, must be %v", seed, step, there(s), pending)
			}
			if len(c) != len(s.Flights) {
				t.Fatalf("seed %d, step %d: there fly %v, and the client has %v", seed, step, s.Flights, c)
			}
		}
		if flown < 100 {
			t.Errorf("seed %d: only %d packets were sent", seed, flown)
		}
	}
}

// Payloads come first in the order in which they were sent, however they land.
func TestJ3InOrder(t *testing.T) {
	s := of(on, nil, nil, 65533)
	var came []string
	note := func(sent []api.Packet) {
		for _, p := range sent {
			if !p.Dup {
				came = append(came, p.Payload)
			}
		}
	}
	var want []string
	for i := range 9 {
		var sent []api.Packet
		s, sent, _ = session.Send(s, "t", fmt.Sprint(i), 1)
		note(sent)
		want = append(want, fmt.Sprint(i))
	}
	for i := 0; len(s.Flights) > 0; i++ {
		var sent []api.Packet
		if i == 2 {
			s, _ = session.Go(s)
			s, sent, _ = session.Come(s)
			note(sent)
		}
		s, sent, _ = session.Landed(s, s.Flights[i%len(s.Flights)].Id)
		note(sent)
	}
	if fmt.Sprint(came) != fmt.Sprint(want) {
		t.Errorf("there came %v, sent were %v", came, want)
	}
}

// calls of the package, of one session.
func calls() []func(api.Session) (api.Session, []api.Packet, api.Errno) {
	return []func(api.Session) (api.Session, []api.Packet, api.Errno){
		func(s api.Session) (api.Session, []api.Packet, api.Errno) { return session.Send(s, "new", "new", 0) },
		func(s api.Session) (api.Session, []api.Packet, api.Errno) { return session.Send(s, "new", "new", 1) },
		func(s api.Session) (api.Session, []api.Packet, api.Errno) { return session.Landed(s, 1) },
		func(s api.Session) (api.Session, []api.Packet, api.Errno) { return session.Landed(s, 0) },
		session.Come,
		func(s api.Session) (api.Session, []api.Packet, api.Errno) {
			got, e := session.Go(s)
			return got, nil, e
		},
	}
}

func TestP1NothingPanicsAndErrorsAnswerNothingElse(t *testing.T) {
	defer func() {
		if r := recover(); r != nil {
			t.Fatalf("panic: %v", r)
		}
	}()
	all := append(right(), api.Session{Flights: make([]api.Flight, 99), Queue: make([]api.Flight, 99)})
	for _, c := range wrong() {
		all = append(all, c.s)
	}
	tell := func(call string, s, got api.Session, p []api.Packet, e api.Errno) {
		if e != api.OK && !isZero(got, p) || e == api.OK && session.Check(got) != api.OK {
			t.Errorf("%s of %+v is %s %d", call, s, show(got, p), e)
		}
		for _, one := range p {
			if packet.Check(one) != api.OK {
				t.Errorf("%s of %+v sends %+v", call, s, one)
			}
		}
	}
	numbers := []int{0, 1, 2, 3, -1, 65535, 65536, math.MaxInt, math.MinInt}
	hostile := []string{"", "/", "\x00", "#", "a", "\xff\xfe", strings.Repeat("/", 99), x(60), x(200), x(201), x(1000)}
	for _, s := range all {
		for _, n := range numbers {
			for _, name := range hostile {
				for _, payload := range hostile {
					got, p, e := session.Send(s, name, payload, n)
					tell("Send", s, got, p, e)
				}
			}
			got, p, e := session.Landed(s, n)
			tell("Landed", s, got, p, e)
		}
		for _, call := range calls() {
			got, p, e := call(s)
			tell("a call", s, got, p, e)
		}
	}
}

// roomy: a copy of a list, with spare room, all of it filled.
func roomy(l []api.Flight) []api.Flight {
	all := append([]api.Flight(nil), l...)
	for range 9 {
		all = append(all, flies(77))
	}
	return all
}

func TestP2WhatIsHandedInIsOnlyRead(t *testing.T) {
	for _, s := range right() {
		flights, queue := roomy(s.Flights), roomy(s.Queue)
		held := s
		held.Flights, held.Queue = flights[:len(s.Flights)], queue[:len(s.Queue)]
		session.Check(held)
		for i, call := range calls() {
			call(held)
			if !reflect.DeepEqual(flights, roomy(s.Flights)) || !reflect.DeepEqual(queue, roomy(s.Queue)) {
				t.Errorf("call %d: of %+v it is %v %v now", i, s, flights, queue)
			}
		}
	}
}

func spoil(l []api.Flight) {
	for i := range l[:cap(l)] {
		l[:cap(l)][i] = api.Flight{Id: 99, Topic: "changed", Payload: "changed"}
	}
}

// What is changed behind a call is not seen in its answer, nor the other way; nor is one list of it seen in another.
func TestP2ListsAreNotShared(t *testing.T) {
	for _, s := range right() {
		for i, call := range calls() {
			flights, queue := roomy(s.Flights), roomy(s.Queue)
			held := s
			held.Flights, held.Queue = flights[:len(s.Flights)], queue[:len(s.Queue)]
			got, p, _ := call(held)
			was := show(got, p)
			spoil(flights)
			spoil(queue)
			if show(got, p) != was {
				t.Errorf("call %d: it was %s and is %s", i, was, show(got, p))
			}
			held.Flights, held.Queue = append([]api.Flight(nil), s.Flights...), append([]api.Flight(nil), s.Queue...)
			got, p, _ = call(held)
			waiting, sent := fmt.Sprint(got.Queue), fmt.Sprint(p)
			spoil(got.Flights)
			if fmt.Sprint(got.Queue) != waiting || fmt.Sprint(p) != sent {
				t.Errorf("call %d: of %+v two lists share memory", i, s)
			}
			spoil(got.Queue)
			if show(held, nil) != show(s, nil) {
				t.Errorf("call %d: what was handed in is %+v now", i, held)
			}
		}
	}
}

// within: does a text lie in the memory of another one?
func within(part, all string) bool {
	if part == "" || all == "" {
		return false
	}
	at := uintptr(unsafe.Pointer(unsafe.StringData(part)))
	from := uintptr(unsafe.Pointer(unsafe.StringData(all)))
	return at >= from && at < from+uintptr(len(all))
}

func texts(s api.Session) []string {
	all := []string{s.Client}
	for _, f := range append(append([]api.Flight(nil), s.Flights...), s.Queue...) {
		all = append(all, f.Topic, f.Payload)
	}
	return all
}

func TestP2AnswersAreNewMemory(t *testing.T) {
	told := func(id int) api.Flight { return api.Flight{Id: id, Topic: x(3), Payload: x(4)} }
	name, payload := x(5), x(6)
	for _, s := range []api.Session{
		{Client: x(2), On: true, Flights: list(told(1)), Next: 2},
		{Client: x(2), On: true, Flights: list(told(1), told(2), told(3)), Queue: list(told(0), told(0)), Next: 4},
		{Client: x(2), Flights: list(told(1)), Queue: list(told(0), told(0), told(0)), Next: 4},
	} {
		handed := append(texts(s), name, payload)
		send := func(qos int) func(api.Session) (api.Session, []api.Packet, api.Errno) {
			return func(s api.Session) (api.Session, []api.Packet, api.Errno) {
				return session.Send(s, name, payload, qos)
			}
		}
		for i, call := range append(calls(), send(0), send(1)) {
			got, p, _ := call(s)
			own := texts(got)
			var sent []string
			for _, one := range p {
				sent = append(sent, one.Topic, one.Payload)
			}
			for _, g := range append(append([]string(nil), own...), sent...) {
				for _, in := range handed {
					if within(g, in) {
						t.Errorf("call %d: %q is a piece of what was handed in, %q", i, g, in)
					}
				}
			}
			for _, g := range sent {
				for _, o := range own {
					if within(g, o) {
						t.Errorf("call %d: %q is a piece of another list's, %q", i, g, o)
					}
				}
			}
		}
	}
}

func TestP2NilAndEmptyListsAreOne(t *testing.T) {
	for how := range 4 {
		for i, call := range calls() {
			a, p, e := call(of(how, nil, nil, 1))
			b, q, f := call(of(how, make([]api.Flight, 0, 5), make([]api.Flight, 0, 5), 1))
			if show(a, p) != show(b, q) || e != f || e != api.OK {
				t.Errorf("call %d is %s %d and %s %d", i, show(a, p), e, show(b, q), f)
			}
		}
	}
}

func TestP3OneAnswerForOneQuestion(t *testing.T) {
	ask := func() string {
		var all []string
		for _, s := range right() {
			for _, call := range calls() {
				got, p, e := call(s)
				all = append(all, show(got, p), fmt.Sprint(e, session.Check(s)))
			}
		}
		return strings.Join(all, "\n")
	}
	first := ask()
	for i := range 20 {
		for _, c := range wrong() {
			session.Send(c.s, "a", "p", i%3)
		}
		session.Send(of(on, nil, nil, 1+i), "a", x(i), 1)
		session.Come(of(0, fleet(1, 2, 3), line(i%8), 1+i))
		if second := ask(); second != first {
			t.Fatalf("it was %s and is %s", first, second)
		}
	}
}

func TestP4GreatThings(t *testing.T) {
	great := strings.Repeat("/", 8<<20)
	for i, c := range []spoiled{
		{named(great), api.ErrForm},
		{of(0, make([]api.Flight, 1<<20), nil, 1), api.ErrMany},
		{of(0, nil, make([]api.Flight, 1<<20), 1), api.ErrMany},
		{of(0, list(api.Flight{Id: 1, Topic: great}), nil, 1), api.ErrMany},
		{of(0, list(api.Flight{Id: 1, Topic: "a", Payload: great}), nil, 1), api.ErrMany},
		{of(0, nil, list(api.Flight{Topic: great}), 1), api.ErrMany},
	} {
		if e := session.Check(c.s); e != c.want {
			t.Errorf("%d: Check is %d, must be %d", i, e, c.want)
		}
	}
	if s, p, e := session.Send(of(on, nil, nil, 1), great, "p", 1); !isZero(s, p) || e != api.ErrMany {
		t.Errorf("Send of a great topic is %d", e)
	}
	if s, p, e := session.Send(of(on, nil, nil, 1), "a", great, 0); !isZero(s, p) || e != api.ErrMany {
		t.Errorf("Send of a great payload is %d", e)
	}
}
