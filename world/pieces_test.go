package world_test

import (
	"fmt"
	"testing"

	"dragoman/api"
	"dragoman/world"
)

// deeds: events of one whole packet or message each, none of which has an error.
func (d *draw) deeds(n int) []api.Event {
	var all []api.Event
	for _, client := range []string{"ann", "bob", "an"} {
		all = append(all, of(client, stream(connect(client, d.n(2) == 0))), of(client, stream(subscribe(1, d.ask(), d.ask()))))
	}
	for range n {
		if d.n(4) == 0 {
			all = append(all, ofPeer(d.n(10), bytes(d.message())))
			continue
		}
		client := d.client()
		all = append(all, of(client, stream(d.packet(client))))
	}
	return all
}

// steps, one by one: what is at last, and all that was sent.
func steps(t *testing.T, b api.Broker, rest []api.Rest, l []api.Event) answer {
	t.Helper()
	var all []api.Sent
	for _, e := range l {
		after, left, sent := step(t, b, rest, e)
		b, rest, all = after, left, join(all, sent)
	}
	return answer{b, rest, all}
}

func (a answer) show() string { return show(a.b, a.rest, a.sent) }

// cut the bytes of clients in pieces, each as long as told.
func cut(l []api.Event, length func() int) []api.Event {
	var all []api.Event
	for _, e := range l {
		if e.Client == "" {
			all = append(all, e)
			continue
		}
		for s := e.Bytes; s != ""; {
			n := min(len(s), length())
			all = append(all, of(e.Client, s[:n]))
			s = s[n:]
		}
	}
	return all
}

// joined: what comes of a client one behind the other comes at once.
func joined(l []api.Event) []api.Event {
	var all []api.Event
	for _, e := range l {
		if last := len(all) - 1; last >= 0 && e.Client != "" && all[last].Client == e.Client {
			all[last].Bytes += e.Bytes
			continue
		}
		all = append(all, e)
	}
	return all
}

// early: a packet's beginning comes long ahead of its end, and others' events between them.
func (d *draw) early(l []api.Event) []api.Event {
	begins := make([][]api.Event, len(l))
	ends := append([]api.Event{}, l...)
	last := map[string]int{}
	for i, e := range l {
		if e.Client == "" {
			continue
		}
		// From where on its bytes may come: behind those of its last packet.
		for at := last[e.Client]; at <= i; at++ {
			if s := ends[i].Bytes; d.n(3) == 0 && len(s) > 1 {
				n := d.n(len(s))
				begins[at] = append(begins[at], of(e.Client, s[:n]))
				ends[i].Bytes = s[n:]
			}
		}
		last[e.Client] = i + 1
	}
	var all []api.Event
	for i, e := range ends {
		all = append(append(all, begins[i]...), e)
	}
	return all
}

func TestM3InWhateverPieces(t *testing.T) {
	told := 0
	for seed := range 30 {
		d := draw(seed)
		b := []api.Broker{{}, some(), {Next: 65530}}[seed%3]
		rest := [][]api.Rest{nil, waits("eve", "\x30\x10\x00")}[seed%2]
		deeds := d.deeds(80)
		is := steps(t, b, rest, deeds)
		told += len(is.sent)
		for i, l := range [][]api.Event{
			joined(deeds),
			cut(deeds, func() int { return 1 }),
			cut(deeds, func() int { return 2 }),
			cut(joined(deeds), func() int { return 5 }),
			cut(joined(deeds), func() int { return 1 + d.n(30) }),
			cut(deeds, func() int { return d.n(4) }), // some have no bytes
			d.early(deeds),
			d.early(deeds),
			cut(d.early(deeds), func() int { return 1 + d.n(9) }),
		} {
			if got := steps(t, b, rest, l); got.show() != is.show() {
				t.Fatalf("seed %d, pieces %d: it is %s\nand must be %s", seed, i, got.show(), is.show())
			}
		}
	}
	if told < 2000 {
		t.Errorf("there were sent only %d", told)
	}
}

// In two pieces, cut anywhere: the broker is the same, and what was sent is.
func TestM3CutAnywhere(t *testing.T) {
	s := stream(connect("eve", true), subscribe(1, ask("#", 1)), retain(publish("a/b", x(200), 1, 2)), puback(1), publish("new", "21", 1, 3), unsubscribe(4, "#")) + ping + "\x10\x0f"
	is := steps(t, some(), nil, []api.Event{of("eve", s)})
	if len(is.sent) < 8 || show(is.b, is.rest, nil) == show(some(), nil, nil) {
		t.Fatalf("too little came of it: %s", is.show())
	}
	for at := range len(s) + 1 {
		events := []api.Event{of("eve", s[:at]), of("eve", s[at:])}
		if got := steps(t, some(), nil, events); got.show() != is.show() {
			t.Errorf("cut at %d it is %s\nand must be %s", at, got.show(), is.show())
		}
		b, all, e := world.Run(some(), events)
		if e != api.OK || show(b, nil, join(all...)) != show(is.b, nil, is.sent) {
			t.Errorf("run, cut at %d it is %s %d\nand must be %s", at, show(b, nil, join(all...)), e, is.show())
		}
	}
}

// Of several clients at once: that the bytes of one come between those of another one does not matter, where their packets end in the same order.
func TestM3PiecesOfSeveralClients(t *testing.T) {
	clients := []string{"zed", "ann", "eve", "bob"}
	var whole, pieces []api.Event
	for turn := range 3 {
		var events []api.Event
		for i, client := range clients {
			p := []api.Packet{connect(client, true), subscribe(1, ask("a/#", i%2)), publish("a/b", fmt.Sprint(i), 1, 1+i)}[turn]
			events = append(events, of(client, stream(p)))
		}
		whole = append(whole, events...)
		pieces = append(pieces, byTurns(events)...)
	}
	is, got := steps(t, api.Broker{}, nil, whole), steps(t, api.Broker{}, nil, pieces)
	// Of the fourth one nothing flies to those who want it of Qos 1.
	if is.show() != got.show() || len(is.sent) != 4+4+4+16-2 {
		t.Errorf("it is %s\nand must be %s", got.show(), is.show())
	}
}

// byTurns: byte by byte, but the last byte of each comes behind all others.
func byTurns(l []api.Event) []api.Event {
	var all, ends []api.Event
	for at := range 100 {
		for _, e := range l {
			if at < len(e.Bytes)-1 {
				all = append(all, of(e.Client, e.Bytes[at:at+1]))
			}
		}
	}
	for _, e := range l {
		ends = append(ends, of(e.Client, e.Bytes[len(e.Bytes)-1:]))
	}
	return append(all, ends...)
}
