package world_test

import (
	"fmt"
	"slices"
	"testing"

	"dragoman/api"
	"dragoman/world"
)

// showRun: what is the same, if an empty list is nil or not.
func showRun(b api.Broker, all [][]api.Sent) string {
	s := show(b, nil, nil)
	for i, sent := range all {
		s += fmt.Sprintf("\n\t%d: %+v", i, sent)
	}
	return s
}

func mustRun(t *testing.T, what string, b api.Broker, l []api.Event, after api.Broker, all [][]api.Sent) {
	t.Helper()
	got, sent, e := world.Run(b, l)
	if e != api.OK || showRun(got, sent) != showRun(after, all) {
		t.Errorf("%s: it is %s %d\nand must be %s", what, showRun(got, sent), e, showRun(after, all))
	}
}

// The example of the document: it begins where a/b is not kept; and a peer that watches it is told the next one.
func TestM2TheExample(t *testing.T) {
	put := func(id int, payload string) string {
		return bytes(asks(api.Con, api.CodePut, id, "p", "a/b", payload))
	}
	events := []api.Event{
		of("ann", stream(connect("ann", false))),
		of("ann", stream(subscribe(1, ask("a/+", 1)))),
		ofPeer(2, put(7, "21")),
		ofPeer(1, bytes(asks(api.Con, api.CodeGet, 8, "t", "a/b", "", ""))),
		ofPeer(2, put(9, "22")),
		of("ann", "\x40\x02\x00\x01"),
	}
	fly := func(id int, payload string) []api.Flight {
		return []api.Flight{{Id: id, Topic: "a/b", Payload: payload}}
	}
	after := api.Broker{
		Kept:     []api.Kept{{Topic: "a/b", Payload: "22", Version: 2}},
		Wants:    []api.Want{want("ann", "a/+", 1)},
		Sessions: []api.Session{{Client: "ann", On: true, Flights: fly(2, "22"), Next: 3}},
		Watches:  []api.Watch{{Peer: 1, Token: "t", Topic: "a/b", Number: 2}},
		Next:     1,
	}
	mustRun(t, "the example", api.Broker{}, events, after, [][]api.Sent{
		to("ann", connack(false)),
		to("ann", suback(1, 1)),
		join(toPeer(2, says(api.Ack, api.CodeChanged, 7, "p", "")), to("ann", publish("a/b", "21", 1, 1))),
		toPeer(1, says(api.Ack, api.CodeContent, 8, "t", "21", "\x01")),
		join(toPeer(2, says(api.Ack, api.CodeChanged, 9, "p", "")), to("ann", publish("a/b", "22", 1, 2)), toPeer(1, says(api.Non, api.CodeContent, 0, "t", "22", "\x02"))),
		nil,
	})
	if s := stream(publish("a/b", "21", 1, 1)); s != "\x32\x09\x00\x03a/b\x00\x0121" {
		t.Errorf("ann is sent %q", s)
	}
}

// Of each event there is what was sent, if that is nothing too; and what waits waits from one to the other.
func TestM2EachEvent(t *testing.T) {
	two := stream(publish("x", "1", 1, 6), publish("x", "2", 1, 7))
	events := []api.Event{
		of("ann", two[:3]), of("bob", "\xc0"), ofPeer(1, "no message"), of("ann", two[3:13]), ofPeer(1, bytes(api.Message{Id: 5})), of("eve", ping), of("bob", "\x00\xc0"), of("ann", two[13:]), of("bob", ""), of("ann", "\xf0\x00"), of("ann", ping), of("bob", "\x00"),
	}
	mustRun(t, "piece by piece", some(), events, gone("ann"), [][]api.Sent{
		nil, nil, nil, to("ann", puback(6)), toPeer(1, api.Message{Kind: api.Rst, Id: 5}), nil, to("bob", pong()), to("ann", puback(7)), nil, nil, nil, to("bob", pong()),
	})
	mustRun(t, "what waits at last is let go", some(), []api.Event{of("bob", "\xc0")}, some(), [][]api.Sent{nil})
	mustRun(t, "nothing waits ahead", some(), []api.Event{of("bob", "\x00")}, some(), [][]api.Sent{nil})
	mustRun(t, "none", some(), nil, some(), nil)
	mustRun(t, "none, of nothing", api.Broker{}, []api.Event{}, api.Broker{}, nil)
}

func TestM2AsManyAsMayBe(t *testing.T) {
	events := slices.Repeat([]api.Event{of("ann", ping)}, api.MaxScript)
	all := slices.Repeat([][]api.Sent{to("ann", pong())}, api.MaxScript)
	mustRun(t, "as many as may be", some(), events, some(), all)
	mustRun(t, "one less", some(), events[1:], some(), all[1:])
	mustRun(t, "events of nothing", some(), make([]api.Event, api.MaxScript), some(), make([][]api.Sent, api.MaxScript))
}

// askedRun: what is asked of Run.
type askedRun struct {
	b    api.Broker
	l    []api.Event
	want api.Errno
}

func wrongRuns() []askedRun {
	bad := but(func(b *api.Broker) { b.Next = 65536 })
	many := func(n int, e api.Event) []api.Event { return slices.Repeat([]api.Event{e}, n) }
	ok := of("ann", ping)
	all := []askedRun{
		{bad, nil, api.ErrRange},
		{bad, many(1, ok), api.ErrRange},
		{bad, many(1, of("a b", "")), api.ErrRange},
		{bad, many(api.MaxScript+1, ok), api.ErrRange},
		{but(func(b *api.Broker) { b.Watches[0].Topic = "none" }), many(api.MaxScript+1, ok), api.ErrState},
		{some(), many(api.MaxScript+1, ok), api.ErrMany},
		{some(), many(api.MaxScript+1, ofPeer(10, "")), api.ErrMany},
		{some(), many(1000, of("a b", "")), api.ErrMany},
		{some(), append(many(api.MaxScript-1, ok), ofPeer(10, "")), api.ErrRange},
		{some(), append(many(api.MaxScript-1, ok), of("a b", "")), api.ErrForm},
		{some(), []api.Event{ok, ofPeer(-1, ""), of("a b", "")}, api.ErrRange}, // the first one tells
		{some(), []api.Event{ok, of("a b", ""), ofPeer(-1, "")}, api.ErrForm},
		{some(), []api.Event{ofPeer(10, ""), ok}, api.ErrRange},
		{api.Broker{}, []api.Event{{Client: "ann", Peer: 1}}, api.ErrRange},
	}
	for _, c := range wrongEvents() {
		all = append(all, askedRun{some(), []api.Event{ok, c.e, ok}, c.want})
	}
	return all
}

func TestM2Errors(t *testing.T) {
	for _, c := range wrongRuns() {
		got, all, e := world.Run(c.b, c.l)
		if e != c.want || len(all) > 0 || !isZero(got, nil, nil) {
			t.Errorf("of %s\n%+v is %s %d, must be %d", show(c.b, nil, nil), c.l, showRun(got, all), e, c.want)
		}
	}
}

// A run is its steps, whatever they are.
func TestM2ByChance(t *testing.T) {
	c := newChance(100)
	var b api.Broker
	for range 50 {
		var events []api.Event
		var all [][]api.Sent
		var rest []api.Rest
		// What was begun ahead is never ended.
		clear(c.begun)
		after := b
		for range c.n(api.MaxScript + 1) {
			e := c.event()
			events = append(events, e)
			now, left, sent := step(t, after, rest, e)
			after, rest, all = now, left, append(all, sent)
		}
		mustRun(t, "by chance", b, events, after, all)
		b = after
	}
}
