package broker_test

import (
	"fmt"
	"slices"
	"testing"

	"dragoman/api"
	"dragoman/broker"
	"dragoman/topic"
	"dragoman/watch"
)

// draw numbers, the same each time.
type draw uint64

func (d *draw) n(n int) int {
	*d = *d*6364136223846793005 + 1442695040888963407
	return int(uint64(*d) >> 33 % uint64(n))
}

// asker: a peer and its token.
type asker struct {
	peer  int
	token string
}

// model: what a broker must have, told another way.
type model struct {
	wants   map[[2]string]int   // by client and filter
	clean   map[string]bool     // of each that has a session
	on      map[string]bool     // of each that is there
	kept    map[string]string   // by topic
	watches map[asker]api.Watch // each with the number that was told last
	told    map[[3]string]bool  // client, topic and payload: it wanted it when it was told
	counts  map[string]int      // how often something was seen
	pending map[string][]string // of each client: what was taken of Qos 1 and did not land, in order
}

func newModel() *model {
	return &model{
		map[[2]string]int{}, map[string]bool{}, map[string]bool{}, map[string]string{},
		map[asker]api.Watch{}, map[[3]string]bool{}, map[string]int{}, map[string][]string{},
	}
}

// wish of a client for a topic: the greatest Qos, or below 0.
func (m *model) wish(client, name string) int {
	most := -1
	for k, qos := range m.wants {
		if yes, _ := topic.Match(k[1], name); yes && k[0] == client {
			most = max(most, qos)
		}
	}
	return most
}

func (m *model) forget(client string) {
	delete(m.clean, client)
	delete(m.on, client)
	delete(m.pending, client)
	for k := range m.wants {
		if k[0] == client {
			delete(m.wants, k)
		}
	}
	for k := range m.told {
		if k[0] == client {
			delete(m.told, k)
		}
	}
}

func (m *model) leave(client string) {
	delete(m.on, client)
	if m.clean[client] {
		m.forget(client)
	}
}

// keep: those that watch what is not kept any more.
func (m *model) keep(name, payload string) []asker {
	var gone []asker
	if payload != "" {
		if _, was := m.kept[name]; was || len(m.kept) < api.MaxKept {
			m.kept[name] = payload
		}
		return nil
	}
	delete(m.kept, name)
	for a, w := range m.watches {
		if w.Topic == name {
			gone = append(gone, a)
			delete(m.watches, a)
		}
	}
	return gone
}

// script: a broker and its model, step by step.
type script struct {
	t   *testing.T
	d   *draw
	b   api.Broker
	was api.Broker // ahead of the last step
	m   *model
}

func placeOf(b api.Broker, client string) int {
	return slices.IndexFunc(b.Sessions, func(s api.Session) bool { return s.Client == client })
}

func (s *script) fail(format string, a ...any) {
	s.t.Helper()
	s.t.Fatalf("%s\n%s", fmt.Sprintf(format, a...), show(s.b, nil))
}

// expectTold: of a topic that was told a payload, each once who wants it and is there, and each watch; all others nothing.
func (s *script) expectTold(name, payload string, qos int, sent []api.Sent) {
	direct := map[string]int{}
	watched := map[asker]int{}
	for _, one := range sent {
		if one.Client != "" {
			if one.Packet.Topic != name || one.Packet.Payload != payload || one.Packet.Dup || one.Packet.Retain {
				s.fail("told is %+v", one)
			}
			direct[one.Client]++
			continue
		}
		a := asker{one.Peer, one.Message.Token}
		was, is := s.m.watches[a]
		number := s.numberOf(one.Message)
		fresh, _ := watch.Fresh(was.Number, number)
		if one.Message.Kind != api.Non || one.Message.Code != api.CodeContent || one.Message.Payload != payload || !is || was.Topic != name || !fresh {
			s.fail("told is %+v, of %v", one, was)
		}
		was.Number = number
		s.m.watches[a] = was
		watched[a]++
	}
	for client := range s.m.clean {
		wish := min(s.m.wish(client, name), qos)
		must := 0
		if wish == 0 && s.m.on[client] || wish == 1 && s.m.on[client] && len(s.m.pending[client]) < api.MaxFlights {
			must = 1
		}
		if direct[client] != must {
			s.fail("%s was sent %d, must be %d", client, direct[client], must)
		}
		delete(direct, client)
		if i := placeOf(s.was, client); wish == 1 && (s.m.on[client] || !s.m.clean[client]) && len(s.was.Sessions[i].Queue) < api.MaxQueue {
			s.m.pending[client] = append(s.m.pending[client], payload)
		}
		if wish >= 0 {
			s.m.told[[3]string{client, name, payload}] = true
		}
		s.m.counts["told"] += must
	}
	if len(direct) > 0 {
		s.fail("there were sent %v", direct)
	}
	for a, w := range s.m.watches {
		if is := w.Topic == name; watched[a] > 1 || watched[a] == 1 != is {
			s.fail("%v of %v was sent %d", a, w, watched[a])
		}
		s.m.counts["watched"] += watched[a]
	}
}

func (s *script) numberOf(m api.Message) int {
	n := 0
	for _, o := range m.Options {
		if o.Number != api.OptObserve {
			s.fail("it has option %v", o)
		}
		for i := range len(o.Value) {
			n = n*256 + int(o.Value[i])
		}
	}
	if len(m.Options) != 1 {
		s.fail("it has options %v", m.Options)
	}
	return n
}

// expectGone: of a topic that is not kept any more, each that watched it is told so.
func (s *script) expectGone(gone []asker, sent []api.Sent) []api.Sent {
	for range gone {
		if len(sent) == 0 {
			s.fail("too few are told that it is gone")
		}
		m := sent[0].Message
		if a := (asker{sent[0].Peer, m.Token}); m.Kind != api.Non || m.Code != api.CodeNotFound || len(m.Options) > 0 || m.Payload != "" || !slices.Contains(gone, a) {
			s.fail("told is %+v, gone are %v", sent[0], gone)
		}
		sent = sent[1:]
		s.m.counts["gone"]++
	}
	return sent
}

// packet: what comes of it, and whether the client is heard.
func (s *script) packet(client string, p api.Packet) ([]api.Sent, bool) {
	on := s.m.on[client]
	b, sent := doPacket(s.t, s.b, client, p)
	s.was, s.b = s.b, b
	if !on && p.Kind != api.Connect {
		if show(s.was, nil) != show(b, sent) {
			s.fail("%s is not there, and of %+v there came %+v", client, p, sent)
		}
		return nil, false
	}
	return sent, true
}

func (s *script) first(sent []api.Sent, want []api.Sent) []api.Sent {
	if len(sent) < len(want) || show(api.Broker{}, sent[:len(want)]) != show(api.Broker{}, want) {
		s.fail("sent is %+v, must begin %+v", sent, want)
	}
	return sent[len(want):]
}

func (s *script) connect(client string, clean bool) {
	sent, _ := s.packet(client, connect(client, clean))
	wasClean, there := s.m.clean[client]
	if !there && len(s.m.clean) == api.MaxSessions {
		s.m.counts["full"]++
		s.first(sent, to(client, api.Packet{Kind: api.Connack, Code: 3}))
		return
	}
	goesOn := there && !wasClean && !clean
	if !goesOn {
		s.m.forget(client)
	}
	s.m.clean[client], s.m.on[client] = clean, true
	for _, one := range s.first(sent, to(client, connack(goesOn))) {
		p := one.Packet
		if one.Client != client || p.Kind != api.Publish || p.Qos != 1 || !goesOn || !s.m.told[[3]string{client, p.Topic, p.Payload}] {
			s.fail("sent is %+v", one)
		}
		s.m.counts["again"]++
	}
}

func (s *script) subscribe(client string, all ...api.Ask) {
	sent, heard := s.packet(client, subscribe(5, all...))
	if !heard {
		return
	}
	var codes []int
	var kept []api.Packet
	for _, a := range all {
		k := [2]string{client, a.Filter}
		if _, was := s.m.wants[k]; !was && len(s.m.wants) == api.MaxWants {
			codes = append(codes, api.Failed)
			s.m.counts["failed"]++
			continue
		}
		s.m.wants[k] = a.Qos
		codes = append(codes, a.Qos)
		var names []string
		for name := range s.m.kept {
			if yes, _ := topic.Match(a.Filter, name); yes {
				names = append(names, name)
			}
		}
		slices.Sort(names)
		for _, name := range names {
			kept = append(kept, retain(publish(name, s.m.kept[name], 0, 0)))
			s.m.counts["kept"]++
		}
	}
	if rest := s.first(sent, join(to(client, suback(5, codes...)), to(client, kept...))); len(rest) > 0 {
		s.fail("sent is %+v too", rest)
	}
}

func (s *script) unsubscribe(client, filter string) {
	sent, heard := s.packet(client, unsubscribe(6, filter))
	if heard {
		delete(s.m.wants, [2]string{client, filter})
		s.first(sent, to(client, api.Packet{Kind: api.Unsuback, Id: 6}))
	}
}

func (s *script) publish(client, name, payload string, qos int, kept bool) {
	p := publish(name, payload, qos, 9*qos)
	p.Retain = kept
	sent, heard := s.packet(client, p)
	if !heard {
		return
	}
	if qos == 1 {
		sent = s.first(sent, to(client, puback(9)))
	}
	if kept {
		sent = s.expectGone(s.m.keep(name, payload), sent)
	}
	s.expectTold(name, payload, qos, sent)
}

// land one of those that fly: what flies then was wanted when it was told.
func (s *script) land(client string) {
	id := 1 + s.d.n(3)
	i := placeOf(s.b, client)
	flies := i >= 0 && len(s.b.Sessions[i].Flights) > 0
	if flies {
		id = s.b.Sessions[i].Flights[0].Id
	}
	sent, heard := s.packet(client, puback(id))
	if heard && flies {
		s.m.pending[client] = s.m.pending[client][1:]
	}
	for _, one := range sent {
		p := one.Packet
		if one.Client != client || p.Qos != 1 || p.Dup || p.Retain || !s.m.told[[3]string{client, p.Topic, p.Payload}] {
			s.fail("sent is %+v", one)
		}
		s.m.counts["flies"]++
	}
	if len(sent) > 1 {
		s.fail("sent is %+v", sent)
	}
}

func (s *script) leave(client string, gone bool) {
	if gone {
		b, e := broker.Gone(s.b, client)
		if e != api.OK || !isRight(b, nil) {
			s.fail("Gone(%q) is %d", client, e)
		}
		s.b = b
		s.m.leave(client)
		return
	}
	if sent, heard := s.packet(client, api.Packet{Kind: api.Disconnect}); heard {
		s.m.leave(client)
		if len(sent) > 0 {
			s.fail("sent is %+v", sent)
		}
	}
}

// message: what was sent but for the answer, which must be of this code and payload.
func (s *script) message(peer int, m api.Message, code int, payload string, observe ...string) []api.Sent {
	next := s.b.Next
	b, sent := doMessage(s.t, s.b, peer, m)
	s.was, s.b = s.b, b
	answer := says(api.Ack, code, m.Id, m.Token, payload, observe...)
	if m.Kind == api.Non {
		answer.Kind, answer.Id = api.Non, next
	}
	return s.first(sent, toPeer(peer, answer))
}

func (s *script) get(peer int, m api.Message, name string, observe int) {
	if _, is := s.m.kept[name]; !is {
		s.message(peer, m, api.CodeNotFound, "")
		return
	}
	a := asker{peer, m.Token}
	switch _, was := s.m.watches[a]; {
	case observe == 0 && (was || len(s.m.watches) < api.MaxWatches):
		s.message(peer, m, api.CodeContent, s.m.kept[name], "\x01")
		s.m.watches[a] = api.Watch{Peer: peer, Token: m.Token, Topic: name, Number: 1}
		return
	case observe == 0:
		s.m.counts["no watch"]++
	case observe == 1:
		delete(s.m.watches, a)
	}
	s.message(peer, m, api.CodeContent, s.m.kept[name])
}

func (s *script) put(peer int, m api.Message, name string) {
	_, was := s.m.kept[name]
	if m.Payload == "" || !was && len(s.m.kept) == api.MaxKept {
		if len(s.message(peer, m, api.CodeBad, "")) > 0 {
			s.fail("more is sent than what is bad")
		}
		s.m.counts["bad"]++
		return
	}
	sent := s.message(peer, m, api.CodeChanged, "")
	s.m.keep(name, m.Payload)
	s.expectTold(name, m.Payload, 1, sent)
}

func (s *script) remove(peer int, m api.Message, name string) {
	sent := s.message(peer, m, api.CodeDeleted, "")
	if rest := s.expectGone(s.m.keep(name, ""), sent); len(rest) > 0 {
		s.fail("sent is %+v too", rest)
	}
}

// turn of a peer.
func (s *script) peerTurn(step int, name string) {
	peer, token := s.d.n(api.MaxPeers+1), []string{"", "t"}[s.d.n(2)]
	kind := []int{api.Con, api.Non}[s.d.n(2)]
	switch s.d.n(20) {
	case 0, 1, 2, 3, 4, 5, 6, 7, 8, 9, 10, 11:
		observe := max(0, s.d.n(6)-3)
		s.get(peer, asks(kind, api.CodeGet, step%65536, token, name, "", string([]byte{byte(observe)})), name, observe)
	case 12, 13, 14, 15, 16, 17, 18:
		s.put(peer, asks(kind, api.CodePut, step%65536, token, name, []string{"", fmt.Sprint("m", step)}[min(s.d.n(25), 1)]), name)
	default:
		s.remove(peer, asks(kind, api.CodeDelete, step%65536, token, name, ""), name)
	}
}

// turn of a client.
func (s *script) clientTurn(step int, name string) {
	filters := []string{"#", "+", "a/+", "a/#", "a", "a/b", "+/+", "k/3", "k/+", "+/b", "/", "k/7"}
	client := []string{"a", "aa", "ann", "bob", "B", "cy", "dan", "~"}[s.d.n(8)]
	ask := func() api.Ask { return ask(filters[s.d.n(len(filters))], s.d.n(2)) }
	switch s.d.n(24) {
	case 0, 1, 2, 3:
		s.connect(client, s.d.n(3) == 0)
	case 4, 5, 6:
		s.subscribe(client, ask(), ask())
	case 7:
		s.unsubscribe(client, ask().Filter)
	case 8:
		s.leave(client, s.d.n(2) == 0)
	case 9, 10, 11, 12, 13, 14:
		s.land(client)
	default:
		s.publish(client, name, []string{"", fmt.Sprint("p", step)}[min(s.d.n(25), 1)], s.d.n(2), s.d.n(2) == 0)
	}
}

// settle: the broker has what the model has.
func (s *script) settle() {
	b := s.b
	if len(b.Kept) != len(s.m.kept) || len(b.Wants) != len(s.m.wants) || len(b.Sessions) != len(s.m.clean) || len(b.Watches) != len(s.m.watches) {
		s.fail("there must be %d kept, %d wants, %d sessions, %d watches", len(s.m.kept), len(s.m.wants), len(s.m.clean), len(s.m.watches))
	}
	for _, k := range b.Kept {
		if s.m.kept[k.Topic] != k.Payload {
			s.fail("kept is %v", k)
		}
	}
	for _, w := range b.Wants {
		if qos, is := s.m.wants[[2]string{w.Client, w.Ask.Filter}]; !is || qos != w.Ask.Qos {
			s.fail("wanted is %v", w)
		}
	}
	for _, w := range b.Watches {
		if s.m.watches[asker{w.Peer, w.Token}] != w {
			s.fail("watched is %v", w)
		}
	}
	for _, one := range b.Sessions {
		if clean, is := s.m.clean[one.Client]; !is || clean != one.Clean || s.m.on[one.Client] != one.On {
			s.fail("a session is %v", one)
		}
		var held []string
		for _, f := range slices.Concat(one.Flights, one.Queue) {
			if !s.m.told[[3]string{one.Client, f.Topic, f.Payload}] {
				s.fail("%s is told %v", one.Client, f)
			}
			held = append(held, f.Payload)
		}
		if !slices.Equal(held, s.m.pending[one.Client]) {
			s.fail("%s must have %q", one.Client, s.m.pending[one.Client])
		}
	}
}

func TestL5WhoNeitherWantsNorWatchesIsToldNothing(t *testing.T) {
	names := []string{"a", "a/b", "a/c", "a/b/c", "b", "/", "c/b"}
	for i := range 12 {
		names = append(names, fmt.Sprint("k/", i))
	}
	counts := map[string]int{}
	for seed := range 8 {
		d := draw(seed)
		s := &script{t: t, d: &d, b: api.Broker{Next: 65500}, m: newModel()}
		for step := range 2500 {
			name := names[d.n(len(names))]
			if d.n(3) == 0 {
				name = names[d.n(3)]
			}
			if d.n(3) == 0 {
				s.peerTurn(step, name)
			} else {
				s.clientTurn(step, name)
			}
			s.settle()
		}
		for k, n := range s.m.counts {
			counts[k] += n
		}
	}
	for _, k := range []string{"told", "watched", "gone", "full", "again", "failed", "kept", "flies", "no watch", "bad"} {
		if counts[k] < 20 {
			t.Errorf("%q came only %d times", k, counts[k])
		}
	}
}
