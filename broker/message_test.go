package broker_test

import (
	"fmt"
	"math"
	"testing"

	"dragoman/api"
	"dragoman/broker"
)

// An empty message is answered, if it waits for that; an answer never is.
func TestL4WithoutAnAnswer(t *testing.T) {
	for _, id := range []int{0, 7, 65535} {
		mustMessage(t, "Con", some(), 4, api.Message{Kind: api.Con, Id: id}, some(), toPeer(4, api.Message{Kind: api.Rst, Id: id}))
		mustMessage(t, "Non", some(), 4, api.Message{Kind: api.Non, Id: id}, some(), nil)
		for _, kind := range []int{api.Ack, api.Rst} {
			mustMessage(t, "empty", some(), 4, api.Message{Kind: kind, Id: id}, some(), nil)
			for _, code := range []int{api.CodeGet, 2, api.CodePut, api.CodeDelete, api.CodeContent, 255} {
				mustMessage(t, "an answer", some(), 1, asks(kind, code, id, "t", "a/b", "p", ""), some(), nil)
				mustMessage(t, "an answer", some(), 1, says(kind, code, id, "t", "p"), some(), nil)
			}
		}
	}
}

// both ways in which a message may wait for its answer, and what the answer has of them.
func both(t *testing.T, what string, code int, path, payload string, observe []string, test func(t *testing.T, what string, m api.Message, answer func(code int, payload string, observe ...string) []api.Sent)) {
	test(t, what+" by Con", asks(api.Con, code, 9, "tok", path, payload, observe...), func(code int, payload string, observe ...string) []api.Sent {
		return toPeer(4, says(api.Ack, code, 9, "tok", payload, observe...))
	})
	test(t, what+" by Non", asks(api.Non, code, 9, "tok", path, payload, observe...), func(code int, payload string, observe ...string) []api.Sent {
		return toPeer(4, says(api.Non, code, 65535, "tok", payload, observe...))
	})
}

// next: some broker behind so many messages of its own Ids.
func next(m api.Message, more int, change func(b *api.Broker)) api.Broker {
	if m.Kind == api.Non {
		more++
	}
	return but(func(b *api.Broker) {
		b.Next = (b.Next + more) % 65536
		change(b)
	})
}

func same(*api.Broker) {}

type answering = func(code int, payload string, observe ...string) []api.Sent

func TestL4WrongPaths(t *testing.T) {
	for _, path := range []string{"a/+", "#", "a b", "a/b/c/d/e/f/g", "\xff", x(31) + "/" + x(30)} {
		for _, code := range []int{api.CodeGet, 2, api.CodePut, api.CodeDelete, 5, api.CodeContent, 255} {
			both(t, path, code, path, "p", []string{""}, func(t *testing.T, what string, m api.Message, answer answering) {
				mustMessage(t, what, some(), 4, m, next(m, 0, same), answer(api.CodeBad, ""))
			})
		}
	}
	for _, code := range []int{api.CodeGet, api.CodePut, api.CodeDelete, 99} {
		m := says(api.Con, code, 9, "", "p") // without a path
		mustMessage(t, "no path", some(), 0, m, some(), toPeer(0, says(api.Ack, api.CodeBad, 9, "", "")))
		m.Options = []api.Option{{Number: api.OptPath, Value: "a/b"}} // a level with what stands between levels
		mustMessage(t, "a/b in one", some(), 0, m, some(), toPeer(0, says(api.Ack, api.CodeBad, 9, "", "")))
		m.Options = []api.Option{{Number: api.OptPath}} // the topic of no bytes
		mustMessage(t, "of no bytes", some(), 0, m, some(), toPeer(0, says(api.Ack, api.CodeBad, 9, "", "")))
	}
}

func TestL4OtherCodes(t *testing.T) {
	for code := 1; code < 256; code++ {
		if code == api.CodeGet || code == api.CodePut || code == api.CodeDelete {
			continue
		}
		both(t, fmt.Sprint(code), code, "a/b", "p", []string{""}, func(t *testing.T, what string, m api.Message, answer answering) {
			mustMessage(t, what, some(), 4, m, next(m, 0, same), answer(api.CodeNot, ""))
		})
	}
}

func TestL4Get(t *testing.T) {
	for name, payload := range map[string]string{"a": "one", "a/b": "two", "c": "three"} {
		// What it asks of watches is of no number that tells something: or of more bytes than a number has.
		for _, observe := range [][]string{nil, {"\x02"}, {"\xff\xff\xff"}, {"\x01\x00"}, {"\x00\x00\x00\x00"}, {"\x02", ""}, {"\x02", "\x01"}} {
			both(t, name, api.CodeGet, name, "ignored", observe, func(t *testing.T, what string, m api.Message, answer answering) {
				mustMessage(t, what, some(), 4, m, next(m, 0, same), answer(api.CodeContent, payload))
			})
		}
	}
	for _, name := range []string{"b", "a/", "/a", "A", "a/b/c", x(60)} {
		for _, observe := range [][]string{nil, {""}, {"\x01"}, {"\x02"}} {
			both(t, name, api.CodeGet, name, "", observe, func(t *testing.T, what string, m api.Message, answer answering) {
				mustMessage(t, what, some(), 4, m, next(m, 0, same), answer(api.CodeNotFound, ""))
			})
		}
	}
	b := but(func(b *api.Broker) { b.Kept[0].Payload = x(200) })
	mustMessage(t, "a great one", b, 4, asks(api.Con, api.CodeGet, 9, "", "a", ""), b, toPeer(4, says(api.Ack, api.CodeContent, 9, "", x(200))))
}

func TestL4GetToWatch(t *testing.T) {
	for _, observe := range [][]string{{""}, {"\x00"}, {"\x00\x00\x00"}, {"", "\x01"}} { // the first one tells
		both(t, "anew", api.CodeGet, "a/b", "", observe, func(t *testing.T, what string, m api.Message, answer answering) {
			after := next(m, 0, func(b *api.Broker) {
				b.Watches = append(b.Watches, api.Watch{Peer: 4, Token: "tok", Topic: "a/b", Number: 1})
			})
			mustMessage(t, what, some(), 4, m, after, answer(api.CodeContent, "two", "\x01"))
		})
	}
	// In the place of the one by that token, of whatever topic.
	for _, name := range []string{"a", "a/b", "c"} {
		m := asks(api.Con, api.CodeGet, 9, "t", name, "", "")
		after := but(func(b *api.Broker) {
			b.Watches = append(b.Watches[1:], api.Watch{Peer: 1, Token: "t", Topic: name, Number: 1})
		})
		payload := map[string]string{"a": "one", "a/b": "two", "c": "three"}[name]
		mustMessage(t, name, some(), 1, m, after, toPeer(1, says(api.Ack, api.CodeContent, 9, "t", payload, "\x01")))
	}
	// Where there is no room it is told what is kept, and does not watch.
	full := but(func(b *api.Broker) { b.Watches = watchesMany(api.MaxWatches) })
	mustMessage(t, "no room", full, 4, asks(api.Con, api.CodeGet, 9, "tok", "a", "", ""), full, toPeer(4, says(api.Ack, api.CodeContent, 9, "tok", "one")))
	after := but(func(b *api.Broker) {
		b.Watches = append(watchesMany(api.MaxWatches)[1:], api.Watch{Peer: 3, Token: "0", Topic: "a", Number: 1})
	})
	mustMessage(t, "room of its own", full, 3, asks(api.Con, api.CodeGet, 9, "0", "a", "", ""), after, toPeer(3, says(api.Ack, api.CodeContent, 9, "0", "one", "\x01")))
}

func TestL4GetNotToWatch(t *testing.T) {
	for _, c := range []struct {
		peer    int
		token   string
		watches []api.Watch
	}{
		{1, "t", some().Watches[1:]},
		{2, "u", append(some().Watches[:1], some().Watches[2:]...)},
		{0, "", some().Watches[:2]},
		{1, "u", some().Watches},
		{2, "t", some().Watches},
		{1, "", some().Watches},
	} {
		for name, payload := range map[string]string{"a": "one", "a/b": "two", "c": "three"} { // of whatever topic that is kept
			for _, observe := range [][]string{{"\x01"}, {"\x00\x01"}, {"\x01", ""}} {
				after := but(func(b *api.Broker) { b.Watches = c.watches })
				m := asks(api.Con, api.CodeGet, 9, c.token, name, "", observe...)
				mustMessage(t, name, some(), c.peer, m, after, toPeer(c.peer, says(api.Ack, api.CodeContent, 9, c.token, payload)))
			}
		}
	}
	// What is not kept is not to be had, and no watch goes.
	mustMessage(t, "not kept", some(), 1, asks(api.Con, api.CodeGet, 9, "t", "b", "", "\x01"), some(), toPeer(1, says(api.Ack, api.CodeNotFound, 9, "t", "")))
}

// The answer is first of all, by its Id too; then who wants it, of Qos 1, then who watches, the peer itself too.
func TestL4Put(t *testing.T) {
	both(t, "a/b", api.CodePut, "a/b", "new", nil, func(t *testing.T, what string, m api.Message, answer answering) {
		after := next(m, 2, func(b *api.Broker) {
			b.Kept[1].Payload, b.Kept[1].Version = "new", 6
			b.Sessions[0].Flights = append(b.Sessions[0].Flights, flight(3, "new"))
			b.Sessions[0].Next = 4
			b.Sessions[2].Queue = append(b.Sessions[2].Queue, flight(0, "new"))
			b.Watches[0].Number, b.Watches[2].Number = 5, 0
		})
		first := 65535
		if m.Kind == api.Non {
			first = 0
		}
		mustMessage(t, what, some(), 4, m, after, join(
			answer(api.CodeChanged, ""),
			to("ann", publish("a/b", "new", 1, 3)),
			to("bob", publish("a/b", "new", 0, 0)),
			toPeer(1, says(api.Non, api.CodeContent, first, "t", "new", "\x05")),
			toPeer(0, says(api.Non, api.CodeContent, (first+1)%65536, "", "new", "")),
		))
	})
	both(t, "a new one", api.CodePut, "new", x(200), []string{""}, func(t *testing.T, what string, m api.Message, answer answering) {
		after := next(m, 0, func(b *api.Broker) {
			b.Kept = append(b.Kept, api.Kept{Topic: "new", Payload: x(200), Version: 1})
		})
		mustMessage(t, what, some(), 4, m, after, join(answer(api.CodeChanged, ""), to("ann", publish("new", x(200), 0, 0))))
	})
	both(t, "its own", api.CodePut, "c", "p", nil, func(t *testing.T, what string, m api.Message, answer answering) {
		b := but(func(b *api.Broker) { b.Watches[1].Peer, b.Wants = 4, nil })
		after := next(m, 1, func(b *api.Broker) {
			b.Watches[1].Peer, b.Watches[1].Number, b.Kept[2].Payload, b.Wants = 4, 0, "p", nil
		})
		told := toPeer(4, says(api.Non, api.CodeContent, (after.Next+65535)%65536, "u", "p", ""))
		mustMessage(t, what, b, 4, m, after, join(answer(api.CodeChanged, ""), told))
	})
}

// Without a payload, or room, nothing is kept, nor told.
func TestL4PutBad(t *testing.T) {
	for _, name := range []string{"a", "a/b", "c", "new"} {
		both(t, name, api.CodePut, name, "", nil, func(t *testing.T, what string, m api.Message, answer answering) {
			mustMessage(t, what, some(), 4, m, next(m, 0, same), answer(api.CodeBad, ""))
		})
	}
	both(t, "no room", api.CodePut, "z", "p", nil, func(t *testing.T, what string, m api.Message, answer answering) {
		b := fullOfKept()
		b.Next = 65535
		after := b
		after.Next = next(m, 0, same).Next
		mustMessage(t, what, b, 4, m, after, answer(api.CodeBad, ""))
	})
}

func TestL4Delete(t *testing.T) {
	both(t, "watched", api.CodeDelete, "a/b", "ignored", []string{""}, func(t *testing.T, what string, m api.Message, answer answering) {
		after := next(m, 2, func(b *api.Broker) {
			b.Kept = []api.Kept{b.Kept[0], b.Kept[2]}
			b.Watches = b.Watches[1:2]
		})
		first := 65535
		if m.Kind == api.Non {
			first = 0
		}
		mustMessage(t, what, some(), 4, m, after, join(
			answer(api.CodeDeleted, ""),
			toPeer(1, says(api.Non, api.CodeNotFound, first, "t", "")),
			toPeer(0, says(api.Non, api.CodeNotFound, (first+1)%65536, "", "")),
		))
	})
	both(t, "not watched", api.CodeDelete, "a", "", nil, func(t *testing.T, what string, m api.Message, answer answering) {
		after := next(m, 0, func(b *api.Broker) { b.Kept = b.Kept[1:] })
		mustMessage(t, what, some(), 4, m, after, answer(api.CodeDeleted, ""))
	})
	for _, name := range []string{"b", "a/", "a/b/c"} {
		both(t, "not kept", api.CodeDelete, name, "", nil, func(t *testing.T, what string, m api.Message, answer answering) {
			mustMessage(t, what, some(), 4, m, next(m, 0, same), answer(api.CodeDeleted, ""))
		})
	}
}

func TestL4EachPeer(t *testing.T) {
	for peer := range api.MaxPeers + 1 {
		m := asks(api.Con, api.CodeGet, 65535, x(8), "a", "")
		mustMessage(t, fmt.Sprint(peer), some(), peer, m, some(), toPeer(peer, says(api.Ack, api.CodeContent, 65535, x(8), "one")))
	}
}

func TestL4Errors(t *testing.T) {
	good := asks(api.Con, api.CodeGet, 1, "t", "a", "")
	bad := func(change func(m *api.Message)) api.Message {
		m := asks(api.Con, api.CodeGet, 1, "t", "a", "")
		change(&m)
		return m
	}
	for _, c := range []struct {
		peer int
		m    api.Message
		want api.Errno
	}{
		{-1, good, api.ErrRange},
		{10, good, api.ErrRange},
		{math.MaxInt, good, api.ErrRange},
		{math.MinInt, good, api.ErrRange},
		{10, api.Message{Kind: 4}, api.ErrRange}, // the peer ahead of the message
		{-1, bad(func(m *api.Message) { m.Token = x(9) }), api.ErrRange},
		{10, api.Message{Kind: api.Ack}, api.ErrRange},
		{1, api.Message{Kind: 4}, api.ErrKind},
		{1, api.Message{Kind: -1}, api.ErrKind},
		{1, bad(func(m *api.Message) { m.Code = 256 }), api.ErrRange},
		{1, bad(func(m *api.Message) { m.Id = 65536 }), api.ErrRange},
		{1, bad(func(m *api.Message) { m.Token = x(9) }), api.ErrMany},
		{1, bad(func(m *api.Message) { m.Payload = x(201) }), api.ErrMany},
		{1, bad(func(m *api.Message) { m.Options = make([]api.Option, 13) }), api.ErrMany},
		{1, bad(func(m *api.Message) { m.Options = append(m.Options, api.Option{Number: 6}) }), api.ErrState},
		{1, bad(func(m *api.Message) { m.Options[0].Value = x(61) }), api.ErrMany},
		{1, bad(func(m *api.Message) { m.Options[0].Number = -1 }), api.ErrRange},
		{1, bad(func(m *api.Message) { m.Code = api.CodeEmpty }), api.ErrForm},
		{1, bad(func(m *api.Message) { m.Kind, m.Token = api.Ack, x(9) }), api.ErrMany}, // though it would do nothing
		{1, api.Message{Kind: api.Rst, Token: "t"}, api.ErrForm},
	} {
		if b, sent, e := broker.Message(some(), c.peer, c.m); !isZero(b, sent) || e != c.want {
			t.Errorf("Message(%d, %+v) is %s %d, must be %d", c.peer, c.m, show(b, sent), e, c.want)
		}
	}
}
