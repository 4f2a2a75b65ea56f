package broker

import (
	"cmp"
	"slices"
	"strings"

	"dragoman/api"
	"dragoman/keep"
	"dragoman/session"
	"dragoman/want"
)

const (
	firstId = 1 // of what flies in a new session
	noRoom  = 3 // Code of a Connack: there are as many sessions as may be
)

func newSession(client string, clean bool) api.Session {
	return api.Session{Client: client, Clean: clean, Next: firstId}
}

// sessionOf a client, if there is one.
func (t *teller) sessionOf(client string) (api.Session, bool) {
	i := slices.IndexFunc(t.Sessions, isSessionOf(client))
	if i < 0 {
		return api.Session{}, false
	}
	return t.Sessions[i], true
}

// inSession of a client: what goes on in it is told by act; what comes of that is sent.
func (t *teller) inSession(client string, act func(api.Session) (api.Session, []api.Packet, api.Errno)) {
	i := slices.IndexFunc(t.Sessions, isSessionOf(client))
	if i < 0 {
		return
	}
	now, sent, _ := act(t.Sessions[i])
	t.Sessions[i] = now
	t.packets(client, sent...)
}

// forget a client: its session and its wants.
func (t *teller) forget(client string) {
	t.Sessions = slices.DeleteFunc(t.Sessions, isSessionOf(client))
	t.Wants, _ = want.Leave(t.Wants, client)
}

// leave: a client is not there any more.
func (t *teller) leave(client string) {
	t.inSession(client, func(s api.Session) (api.Session, []api.Packet, api.Errno) {
		gone, e := session.Go(s)
		return gone, nil, e
	})
	if s, _ := t.sessionOf(client); s.Clean {
		t.forget(client)
	}
}

func (t *teller) takePacket(client string, p api.Packet) {
	if p.Kind == api.Connect {
		if p.Client == client {
			t.connect(client, p.Clean)
		}
		return
	}
	if s, _ := t.sessionOf(client); !s.On {
		return
	}
	switch p.Kind {
	case api.Publish:
		t.publish(client, p)
	case api.Puback:
		t.inSession(client, func(s api.Session) (api.Session, []api.Packet, api.Errno) {
			return session.Landed(s, p.Id)
		})
	case api.Subscribe:
		t.subscribe(client, p)
	case api.Unsubscribe:
		t.unsubscribe(client, p)
	case api.Pingreq:
		t.packets(client, api.Packet{Kind: api.Pingresp})
	case api.Disconnect:
		t.leave(client)
	}
}

func (t *teller) connect(client string, clean bool) {
	was, there := t.sessionOf(client)
	if !there && len(t.Sessions) == api.MaxSessions {
		t.packets(client, api.Packet{Kind: api.Connack, Code: noRoom})
		return
	}
	goesOn := there && !was.Clean && !clean
	if !goesOn {
		t.forget(client)
		t.begin(newSession(strings.Clone(client), clean))
	}
	t.packets(client, api.Packet{Kind: api.Connack, Session: goesOn})
	t.inSession(client, session.Come)
}

// begin a session, where it stands by its client.
func (t *teller) begin(s api.Session) {
	t.Sessions = append(t.Sessions, s)
	slices.SortFunc(t.Sessions, func(a, b api.Session) int { return cmp.Compare(a.Client, b.Client) })
}

func (t *teller) publish(client string, p api.Packet) {
	if p.Qos == 1 {
		t.packets(client, api.Packet{Kind: api.Puback, Id: p.Id})
	}
	if p.Retain {
		// Where it can't be kept it is told all the same.
		t.keep(p.Topic, p.Payload)
	}
	t.tell(p.Topic, p.Payload, p.Qos)
}

func (t *teller) subscribe(client string, p api.Packet) {
	var codes []int
	var kept []api.Packet
	for _, a := range p.Asks {
		all, e := want.Add(t.Wants, client, a)
		if e != api.OK {
			codes = append(codes, api.Failed)
			continue
		}
		t.Wants = all
		codes = append(codes, a.Qos)
		kept = append(kept, t.keptFor(a.Filter)...)
	}
	t.packets(client, api.Packet{Kind: api.Suback, Id: p.Id, Codes: codes})
	t.packets(client, kept...)
}

// keptFor a filter: packets of all that is kept by the topics that it is for.
func (t *teller) keptFor(filter string) []api.Packet {
	var all []api.Packet
	kept, _ := keep.List(t.Kept, filter)
	for _, k := range kept {
		all = append(all, api.Packet{Kind: api.Publish, Retain: true, Topic: k.Topic, Payload: k.Payload})
	}
	return all
}

func (t *teller) unsubscribe(client string, p api.Packet) {
	for _, a := range p.Asks {
		t.Wants, _ = want.Drop(t.Wants, client, a.Filter)
	}
	t.packets(client, api.Packet{Kind: api.Unsuback, Id: p.Id})
}
