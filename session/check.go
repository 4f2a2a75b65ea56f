package session

import (
	"slices"

	"dragoman/api"
	"dragoman/packet"
	"dragoman/topic"
)

// Check a session.
func Check(s api.Session) api.Errno {
	if !isName(s.Client) {
		return api.ErrForm
	}
	if len(s.Flights) > api.MaxFlights || len(s.Queue) > api.MaxQueue {
		return api.ErrMany
	}
	if e := checkFlights(s.Flights); e != api.OK {
		return e
	}
	if e := checkQueue(s.Queue); e != api.OK {
		return e
	}
	if !isId(s.Next) {
		return api.ErrRange
	}
	if !isSettled(s) {
		return api.ErrState
	}
	return api.OK
}

// isName: may a client be called so? A Connect has that rule: there it is asked for, so that there is one alone.
func isName(s string) bool {
	return packet.Check(api.Packet{Kind: api.Connect, Client: s}) == api.OK
}

func isId(n int) bool {
	return n >= 1 && n <= api.MaxId
}

// isOf: has one of the flights that Id?
func isOf(flights []api.Flight, id int) bool {
	return slices.ContainsFunc(flights, func(f api.Flight) bool { return f.Id == id })
}

func checkFlights(l []api.Flight) api.Errno {
	for i, f := range l {
		if e := checkTold(f.Topic, f.Payload); e != api.OK {
			return e
		}
		if !isId(f.Id) {
			return api.ErrRange
		}
		if isOf(l[:i], f.Id) {
			return api.ErrTwice
		}
	}
	return api.OK
}

func checkQueue(l []api.Flight) api.Errno {
	for _, f := range l {
		if e := checkTold(f.Topic, f.Payload); e != api.OK {
			return e
		}
		if f.Id != 0 {
			return api.ErrForm
		}
	}
	return api.OK
}

// checkTold: what is told a client, whether it flies or waits.
func checkTold(name, payload string) api.Errno {
	if e := topic.Name(name); e != api.OK {
		return e
	}
	if len(payload) > api.MaxPayload {
		return api.ErrMany
	}
	return api.OK
}

// checkAsked: what Send is asked.
func checkAsked(name, payload string, qos int) api.Errno {
	if e := checkTold(name, payload); e != api.OK {
		return e
	}
	if qos != 0 && qos != 1 {
		return api.ErrRange
	}
	return api.OK
}

// isSettled: is nothing there that must be gone, and does nothing wait that could fly?
func isSettled(s api.Session) bool {
	if s.On {
		return len(s.Queue) == 0 || len(s.Flights) == api.MaxFlights
	}
	return !s.Clean || len(s.Flights) == 0 && len(s.Queue) == 0
}
