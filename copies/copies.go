// Package copies: what shares no memory with what it is a copy of.
package copies

import (
	"strings"

	"dragoman/api"
)

// Broker in memory of its own.
func Broker(b api.Broker) api.Broker {
	return api.Broker{
		Kept:     all(b.Kept, kept),
		Wants:    all(b.Wants, want),
		Sessions: all(b.Sessions, session),
		Watches:  all(b.Watches, watch),
		Next:     b.Next,
	}
}

func all[T any](l []T, one func(T) T) []T {
	var copied []T
	for _, x := range l {
		copied = append(copied, one(x))
	}
	return copied
}

func kept(k api.Kept) api.Kept {
	k.Topic, k.Payload = strings.Clone(k.Topic), strings.Clone(k.Payload)
	return k
}

func want(w api.Want) api.Want {
	w.Client, w.Ask.Filter = strings.Clone(w.Client), strings.Clone(w.Ask.Filter)
	return w
}

func session(s api.Session) api.Session {
	s.Client = strings.Clone(s.Client)
	s.Flights, s.Queue = all(s.Flights, flight), all(s.Queue, flight)
	return s
}

func flight(f api.Flight) api.Flight {
	f.Topic, f.Payload = strings.Clone(f.Topic), strings.Clone(f.Payload)
	return f
}

func watch(w api.Watch) api.Watch {
	w.Token, w.Topic = strings.Clone(w.Token), strings.Clone(w.Topic)
	return w
}
