package broker

import (
	"strings"

	"dragoman/api"
)

func clone(b api.Broker) api.Broker {
	return api.Broker{
		Kept:     cloneAll(b.Kept, cloneKept),
		Wants:    cloneAll(b.Wants, cloneWant),
		Sessions: cloneAll(b.Sessions, cloneSession),
		Watches:  cloneAll(b.Watches, cloneWatch),
		Next:     b.Next,
	}
}

func cloneAll[T any](l []T, one func(T) T) []T {
	var all []T
	for _, x := range l {
		all = append(all, one(x))
	}
	return all
}

func cloneKept(k api.Kept) api.Kept {
	k.Topic, k.Payload = strings.Clone(k.Topic), strings.Clone(k.Payload)
	return k
}

func cloneWant(w api.Want) api.Want {
	w.Client, w.Ask.Filter = strings.Clone(w.Client), strings.Clone(w.Ask.Filter)
	return w
}

func cloneSession(s api.Session) api.Session {
	s.Client = strings.Clone(s.Client)
	s.Flights, s.Queue = cloneAll(s.Flights, cloneFlight), cloneAll(s.Queue, cloneFlight)
	return s
}

func cloneFlight(f api.Flight) api.Flight {
	f.Topic, f.Payload = strings.Clone(f.Topic), strings.Clone(f.Payload)
	return f
}

func cloneWatch(w api.Watch) api.Watch {
	w.Token, w.Topic = strings.Clone(w.Token), strings.Clone(w.Topic)
	return w
}
