package world_test

// What the whole promises, a test for each sentence: here of the chapters 8 to 13, by nothing but the bytes that come and what is sent.

import (
	"fmt"
	"maps"
	"slices"
	"strings"
	"testing"

	"dragoman/api"
	"dragoman/frame"
	"dragoman/message"
	"dragoman/option"
	"dragoman/packet"
	"dragoman/watch"
	"dragoman/world"
)

// place where events happen, one behind the other.
type place struct {
	t    *testing.T
	b    api.Broker
	rest []api.Rest
}

// tell it an event: what is sent.
func (p *place) tell(e api.Event) []api.Sent {
	p.t.Helper()
	b, rest, sent := step(p.t, p.b, p.rest, e)
	p.b, p.rest = b, rest
	return sent
}

// client tells packets.
func (p *place) client(client string, all ...api.Packet) []api.Sent {
	p.t.Helper()
	return p.tell(of(client, stream(all...)))
}

func (p *place) peer(peer int, m api.Message) []api.Sent {
	p.t.Helper()
	return p.tell(ofPeer(peer, bytes(m)))
}

func (p *place) must(what string, got, is []api.Sent) {
	p.t.Helper()
	if show(api.Broker{}, nil, got) != show(api.Broker{}, nil, is) {
		p.t.Fatalf("%s: of %s\nthere is sent %+v,\nmust be %+v", what, show(p.b, p.rest, nil), got, is)
	}
}

// Whoever put it, by packets or by messages, it is got by both.
func TestWholeWhatWasPutLastIsGot(t *testing.T) {
	d := draw(8)
	p := &place{t: t}
	p.client("pub", connect("pub", false))
	last, versions := map[string]string{}, map[string]int{}
	full := 0
	for n := range 4000 {
		name, payload := fmt.Sprintf("k/%02d", d.n(api.MaxKept+3)), fmt.Sprint("p", n)
		room := last[name] != "" || len(last) < api.MaxKept
		put := room
		switch d.n(16) {
		case 0:
			p.must("Delete", p.peer(1, asks(api.Con, api.CodeDelete, 5, "t", name, "")), toPeer(1, says(api.Ack, api.CodeDeleted, 5, "t", "")))
			payload, put = "", true
		case 1:
			p.client("pub", retain(publish(name, "", 0, 0)))
			payload, put = "", true
		case 2, 3, 4, 5, 6, 7:
			p.client("pub", retain(publish(name, payload, 1, 5)))
		case 8:
			p.client("pub", publish(name, payload, 0, 0))
			put = false
		default:
			code := api.CodeChanged
			if !room {
				code = api.CodeBad
				full++
			}
			p.must("Put", p.peer(1, asks(api.Con, api.CodePut, 5, "t", name, payload)), toPeer(1, says(api.Ack, code, 5, "t", "")))
		}
		if put && payload != "" {
			last[name], versions[name] = payload, versions[name]+1
		} else if put {
			delete(last, name)
			delete(versions, name)
		}
		p.mustGet(last, name)
		if n%50 == 0 {
			p.mustList(last)
		}
	}
	for _, k := range p.b.Kept {
		if k.Payload != last[k.Topic] || k.Version != versions[k.Topic] {
			t.Errorf("kept is %v, must be %q, version %d", k, last[k.Topic], versions[k.Topic])
		}
	}
	if full < 20 || len(p.b.Kept) != len(last) {
		t.Errorf("it was full only %d times; kept are %d, must be %d", full, len(p.b.Kept), len(last))
	}
}

func (p *place) mustGet(last map[string]string, name string) {
	p.t.Helper()
	is := says(api.Ack, api.CodeContent, 6, "", last[name])
	if last[name] == "" {
		is.Code = api.CodeNotFound
	}
	p.must("Get", p.peer(9, asks(api.Con, api.CodeGet, 6, "", name, "")), toPeer(9, is))
}

func (p *place) mustList(last map[string]string) {
	p.t.Helper()
	is := []api.Packet{connack(false), suback(1, 0)}
	for _, name := range slices.Sorted(maps.Keys(last)) {
		is = append(is, retain(publish(name, last[name], 0, 0)))
	}
	p.must("Subscribe", p.client("new", connect("new", true), subscribe(1, ask("#", 0)), api.Packet{Kind: api.Disconnect}), to("new", is...))
}

// clientsThatWant a topic and are there, rising: told another way.
func clientsThatWant(wants map[[2]string]bool, on map[string]bool, name string) []string {
	all := map[string]bool{}
	for w := range wants {
		if on[w[0]] && fits(strings.Split(w[1], "/"), strings.Split(name, "/")) {
			all[w[0]] = true
		}
	}
	return slices.Sorted(maps.Keys(all))
}

func TestWholeAClientReadsWhatItWantsAndNothingElse(t *testing.T) {
	d := draw(9)
	p := &place{t: t}
	p.client("pub", connect("pub", false))
	wants, on := map[[2]string]bool{}, map[string]bool{"pub": true}
	told := 0
	for n := range 4000 {
		client, filter, name := d.one("ann", "bob", "an", "cy"), d.filter(), d.name()
		switch d.n(8) {
		case 0:
			// It is never clean: what it wants it wants when it comes again.
			p.client(client, connect(client, false))
			on[client] = true
		case 1:
			if p.client(client, unsubscribe(1, filter)); on[client] {
				delete(wants, [2]string{client, filter})
			}
		case 2:
			sent := p.client(client, subscribe(1, ask(filter, d.n(2))))
			if on[client] && sent[0].Packet.Codes[0] != api.Failed {
				wants[[2]string{client, filter}] = true
			}
		case 3:
			if d.n(4) == 0 {
				p.tell(of(client, d.one(bye, "\xf0\x00", "\xc0\xff\xff\xff\xff")))
				delete(on, client)
			}
		default:
			payload := fmt.Sprint("p", n)
			var is []api.Sent
			for _, reader := range clientsThatWant(wants, on, name) {
				is = append(is, to(reader, publish(name, payload, 0, 0))...)
			}
			p.must("Publish", p.client("pub", publish(name, payload, 0, 0)), is)
			told += len(is)
		}
	}
	if told < 1000 {
		t.Errorf("there were told only %d", told)
	}
}

// reader of what is sent of Qos 1: what it was told, in order, and what it has not yet acknowledged.
type reader struct {
	t    *testing.T
	told []string
	open []api.Packet
}

func (r *reader) read(all []api.Sent) {
	r.t.Helper()
	again := 0
	for _, s := range all {
		one := s.Packet
		if s.Client != "ann" || one.Kind != api.Publish {
			continue
		}
		if one.Dup {
			one.Dup = false
			if again >= len(r.open) || fmt.Sprint(one) != fmt.Sprint(r.open[again]) {
				r.t.Fatalf("sent again is %+v, the %d. of %+v", one, again, r.open)
			}
			again++
			continue
		}
		if slices.ContainsFunc(r.open, func(o api.Packet) bool { return o.Id == one.Id }) {
			r.t.Fatalf("there fly two by %d", one.Id)
		}
		r.told, r.open = append(r.told, one.Payload), append(r.open, one)
	}
}

// land the one at a place.
func (r *reader) land(p *place, i int) {
	r.t.Helper()
	id := r.open[i].Id
	r.open = slices.Delete(r.open, i, i+1)
	r.read(p.client("ann", puback(id)))
}

func TestWholeWhatWasSentIsThereTillItHasLandedInOrder(t *testing.T) {
	d := draw(10)
	p := &place{t: t, b: api.Broker{Sessions: []api.Session{{Client: "ann", On: true, Next: 65000}}}}
	p.client("ann", subscribe(1, ask("a/#", 1)))
	p.client("pub", connect("pub", true))
	r := &reader{t: t}
	var taken []string
	on, lost := true, 0
	for n := range 6000 {
		switch d.n(9) {
		case 0, 1, 2, 3:
			queue := len(p.b.Sessions[0].Queue)
			payload := fmt.Sprint("p", n)
			r.read(p.client("pub", publish("a/b", payload, 1, 1)))
			if queue < api.MaxQueue {
				taken = append(taken, payload)
			} else {
				lost++
			}
		case 4:
			p.tell(of("ann", d.one(bye, "\xf0\x00", "\x30\xff\xff\x7f")))
			on = false
		case 5:
			sent := p.client("ann", connect("ann", false))
			// All that fly are sent again, ahead of what flies then.
			if open := len(r.open); len(sent) < 1+open || open > 0 && !sent[open].Packet.Dup {
				t.Fatalf("open are %+v, sent again %+v", r.open, sent)
			}
			r.read(sent)
			on = true
		default:
			if on && len(r.open) > 0 {
				r.land(p, d.n(len(r.open)))
			}
		}
		if waits := len(p.b.Sessions[0].Queue); len(r.told)+waits != len(taken) {
			t.Fatalf("%d were taken, %d told, and %d wait", len(taken), len(r.told), waits)
		}
	}
	r.read(p.client("ann", connect("ann", false)))
	for len(r.open) > 0 {
		r.land(p, 0)
	}
	if !slices.Equal(r.told, taken) || len(taken) < 1000 || lost < 100 {
		t.Errorf("taken were %d, told %d, lost %d", len(taken), len(r.told), lost)
	}
}

func TestWholeWhatIsToldIsFresh(t *testing.T) {
	d := draw(11)
	b := api.Broker{Kept: []api.Kept{{Topic: "a", Payload: "0", Version: 1}, {Topic: "b", Payload: "0", Version: 1}}}
	last := map[string]int{}
	for i, from := range []int{0, 8388600, api.MaxSeq - 300, api.MaxSeq} {
		token := fmt.Sprint("t", i)
		b.Watches = append(b.Watches, api.Watch{Peer: i, Token: token, Topic: "a", Number: from})
		last[fmt.Sprint(i, token)] = from
	}
	p := &place{t: t, b: b}
	told := 0
	kept := map[string]string{"a": "0", "b": "0"}
	for n := range 3000 {
		var sent []api.Sent
		name := d.one("a", "b")
		switch d.n(8) {
		case 0:
			peer := d.n(10)
			sent = p.peer(peer, asks(d.n(2), api.CodeGet, n, "", name, "", ""))
			// It watches anew.
			delete(last, fmt.Sprint(peer, ""))
		default:
			kept[name] = fmt.Sprint(n)
			sent = p.peer(9, asks(api.Con, api.CodePut, n, "put", name, kept[name]))
		}
		for _, s := range sent {
			number, e := option.Uint(s.Message, api.OptObserve)
			if e != api.OK {
				continue
			}
			by := fmt.Sprint(s.Peer, s.Message.Token)
			was, watched := last[by]
			if is, e := watch.Fresh(was, number); watched && !is || e != api.OK {
				t.Fatalf("told is %d behind %d", number, was)
			}
			if s.Message.Payload != kept[name] {
				t.Fatalf("of %q is told %q, must be %q", name, s.Message.Payload, kept[name])
			}
			last[by] = number
			told++
		}
	}
	if told < 3000 {
		t.Errorf("there were told only %d", told)
	}
}

func TestWholeWhatIsSentCanBeEncoded(t *testing.T) {
	for seed := range 4 {
		c := newChance(seed)
		p := &place{t: t}
		for range 2000 {
			for _, s := range p.tell(c.event()) {
				if s.Client != "" {
					all, e := packet.Encode(s.Packet)
					again, f := packet.Decode(all)
					if e+f != api.OK || fmt.Sprint(again) != fmt.Sprint(s.Packet) {
						t.Fatalf("%+v is %q %d, and that %+v %d", s.Packet, all, e, again, f)
					}
					continue
				}
				all, e := message.Encode(s.Message)
				again, f := message.Decode(all)
				if e+f != api.OK || fmt.Sprint(again) != fmt.Sprint(s.Message) || s.Peer < 0 || s.Peer > api.MaxPeers {
					t.Fatalf("%+v is %q %d, and that %+v %d", s.Message, all, e, again, f)
				}
			}
		}
	}
}

// topicsTold by an event, and what its client asks for in it.
func topicsTold(e api.Event, rest []api.Rest) (map[string]bool, []api.Want) {
	names := map[string]bool{}
	var wants []api.Want
	if e.Client == "" {
		if m, wrong := message.Decode(e.Bytes); wrong == api.OK {
			name, _ := option.Path(m)
			names[name] = m.Code == api.CodePut || m.Code == api.CodeDelete
		}
		return names, wants
	}
	waiting := ""
	for _, r := range rest {
		if r.Client == e.Client {
			waiting = r.Bytes
		}
	}
	all, _, _ := frame.Feed(waiting, e.Bytes)
	for _, p := range all {
		if p.Kind == api.Publish {
			names[p.Topic] = true
		}
		for _, a := range p.Asks {
			wants = append(wants, api.Want{Client: e.Client, Ask: a})
		}
	}
	return names, wants
}

// mayBeTold: does a client want the topic, or did it when it was told?
func mayBeTold(b api.Broker, asked []api.Want, client, name string) bool {
	wanted := func(w api.Want) bool {
		return w.Client == client && fits(strings.Split(w.Ask.Filter, "/"), strings.Split(name, "/"))
	}
	held := func(s api.Session) bool {
		return s.Client == client && slices.ContainsFunc(slices.Concat(s.Flights, s.Queue), func(f api.Flight) bool { return f.Topic == name })
	}
	return slices.ContainsFunc(slices.Concat(b.Wants, asked), wanted) || slices.ContainsFunc(b.Sessions, held)
}

func TestWholeWhoNeitherWantsNorWatchesIsToldNothing(t *testing.T) {
	toOthers := 0
	for seed := range 4 {
		c := newChance(10 + seed)
		p := &place{t: t}
		for range 2000 {
			e, b, rest := c.event(), p.b, p.rest
			names, asked := topicsTold(e, rest)
			for i, s := range p.tell(e) {
				if s.Client == "" && s.Peer == e.Peer && e.Client == "" && i == 0 {
					continue // its answer
				}
				if s.Client == "" {
					is := func(w api.Watch) bool {
						return w.Peer == s.Peer && w.Token == s.Message.Token && names[w.Topic]
					}
					if !slices.ContainsFunc(b.Watches, is) {
						t.Fatalf("of %+v there is sent %+v; it was %s", e, s, show(b, rest, nil))
					}
					toOthers++
					continue
				}
				if s.Client == e.Client && s.Packet.Kind != api.Publish {
					continue // its answer
				}
				if s.Packet.Kind != api.Publish || s.Client != e.Client && !names[s.Packet.Topic] || !mayBeTold(b, asked, s.Client, s.Packet.Topic) {
					t.Fatalf("of %+v there is sent %+v; it was %s", e, s, show(b, rest, nil))
				}
				if s.Client != e.Client {
					toOthers++
				}
			}
		}
	}
	if toOthers < 1000 {
		t.Errorf("there were sent only %d", toOthers)
	}
}

// All that a client ever sends, at once, or byte by byte, or in pieces by chance: the broker is the same at last, and what was sent is.
func TestWholeInWhateverPiecesAClientsBytesComeTheBrokerIsTheSame(t *testing.T) {
	for seed := range 20 {
		d := draw(seed)
		s := stream(connect("eve", d.n(2) == 0), subscribe(1, d.ask(), d.ask()))
		for range 60 {
			s += stream(d.packet("eve"))
		}
		at := d.n(len(s))
		is, left, sent := step(t, some(), nil, of("eve", s))
		for _, l := range [][]api.Event{
			{of("eve", s[:at]), of("eve", s[at:])},
			cut([]api.Event{of("eve", s)}, func() int { return 1 }),
			cut([]api.Event{of("eve", s)}, func() int { return 1 + d.n(90) }),
		} {
			got := steps(t, some(), nil, l)
			if got.show() != show(is, left, sent) {
				t.Fatalf("seed %d: it is %s\nand must be %s", seed, got.show(), show(is, left, sent))
			}
			if len(l) > api.MaxScript {
				continue
			}
			b, all, e := world.Run(some(), l)
			if show(b, nil, join(all...)) != show(is, nil, sent) || e != api.OK {
				t.Fatalf("seed %d: it is %s %d\nand must be %s", seed, showRun(b, all), e, show(is, left, sent))
			}
		}
	}
}
