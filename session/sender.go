package session

import (
	"strings"

	"dragoman/api"
)

// sender: a session, in memory of its own, and the packets that it sends.
type sender struct {
	api.Session
	sent []api.Packet
}

// queue what shall fly, if the session is one that holds it, and has room.
func (o *sender) queue(name, payload string) {
	if (o.On || !o.Clean) && len(o.Queue) < api.MaxQueue {
		o.Queue = append(o.Queue, cloneFlight(api.Flight{Topic: name, Payload: payload}))
	}
}

// fly: what waits is sent, while it may.
func (o *sender) fly() {
	for o.On && len(o.Queue) > 0 && len(o.Flights) < api.MaxFlights {
		f := o.Queue[0]
		o.Queue = o.Queue[1:]
		f.Id = o.freeId()
		o.Next = behind(f.Id)
		o.Flights = append(o.Flights, f)
		o.sendFlight(f, false)
	}
}

// freeId: Next, or the first one behind it that no flight has. (There are more Ids than flights: one is free.)
func (o *sender) freeId() int {
	id := o.Next
	for isOf(o.Flights, id) {
		id = behind(id)
	}
	return id
}

// behind an Id stands the next one.
func behind(id int) int {
	if id == api.MaxId {
		return 1
	}
	return id + 1
}

func (o *sender) sendFlight(f api.Flight, dup bool) {
	o.send(api.Packet{Dup: dup, Qos: 1, Id: f.Id, Topic: f.Topic, Payload: f.Payload})
}

// send a Publish. Its texts are copies: the flight that it is of goes on beside it.
func (o *sender) send(p api.Packet) {
	p.Kind = api.Publish
	p.Topic, p.Payload = strings.Clone(p.Topic), strings.Clone(p.Payload)
	o.sent = append(o.sent, p)
}

func clone(s api.Session) api.Session {
	s.Client = strings.Clone(s.Client)
	s.Flights = cloneAll(s.Flights)
	s.Queue = cloneAll(s.Queue)
	return s
}

func cloneAll(l []api.Flight) []api.Flight {
	var all []api.Flight
	for _, f := range l {
		all = append(all, cloneFlight(f))
	}
	return all
}

func cloneFlight(f api.Flight) api.Flight {
	return api.Flight{Id: f.Id, Topic: strings.Clone(f.Topic), Payload: strings.Clone(f.Payload)}
}
