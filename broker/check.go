package broker

import (
	"slices"

	"dragoman/api"
	"dragoman/keep"
	"dragoman/session"
	"dragoman/want"
	"dragoman/watch"
)

// maxNext: what the Id of a message may be.
const maxNext = 65535

// Check a broker.
func Check(b api.Broker) api.Errno {
	if e := keep.Check(b.Kept); e != api.OK {
		return e
	}
	if e := want.Check(b.Wants); e != api.OK {
		return e
	}
	if e := checkSessions(b.Sessions); e != api.OK {
		return e
	}
	if e := watch.Check(b.Watches); e != api.OK {
		return e
	}
	if slices.ContainsFunc(b.Wants, isOfNobody(b.Sessions)) || slices.ContainsFunc(b.Watches, isOfNothing(b.Kept)) {
		return api.ErrState
	}
	if b.Next < 0 || b.Next > maxNext {
		return api.ErrRange
	}
	return api.OK
}

func checkSessions(l []api.Session) api.Errno {
	if len(l) > api.MaxSessions {
		return api.ErrMany
	}
	// No client's name is empty: so each session stands behind this.
	ahead := ""
	for _, s := range l {
		if e := session.Check(s); e != api.OK {
			return e
		}
		if s.Client <= ahead {
			return api.ErrState
		}
		ahead = s.Client
	}
	return api.OK
}

// isOfNobody: has a want's client no session?
func isOfNobody(l []api.Session) func(api.Want) bool {
	return func(w api.Want) bool { return !slices.ContainsFunc(l, isSessionOf(w.Client)) }
}

// isOfNothing: is a watch's topic not kept?
func isOfNothing(l []api.Kept) func(api.Watch) bool {
	return func(w api.Watch) bool {
		return !slices.ContainsFunc(l, func(k api.Kept) bool { return k.Topic == w.Topic })
	}
}

func isSessionOf(client string) func(api.Session) bool {
	return func(s api.Session) bool { return s.Client == client }
}

// checkClient: may a client be called so? There is nothing else that may be wrong with its new session.
func checkClient(client string) api.Errno {
	return session.Check(newSession(client, false))
}

func checkPeer(peer int) api.Errno {
	if peer < 0 || peer > api.MaxPeers {
		return api.ErrRange
	}
	return api.OK
}
