package world

import (
	"dragoman/api"
	"dragoman/packet"
	"dragoman/watch"
)

func checkRest(l []api.Rest) api.Errno {
	// No client's name is empty: so each one stands behind this.
	ahead := ""
	for _, r := range l {
		if !isName(r.Client) || r.Bytes == "" {
			return api.ErrForm
		}
		if len(r.Bytes) > api.MaxStream {
			return api.ErrMany
		}
		if r.Client <= ahead {
			return api.ErrState
		}
		ahead = r.Client
	}
	return api.OK
}

func checkEvent(e api.Event) api.Errno {
	if isOfPeer(e) {
		return checkPeer(e.Peer)
	}
	if !isName(e.Client) {
		return api.ErrForm
	}
	if e.Peer != 0 {
		return api.ErrRange
	}
	return api.OK
}

func isOfPeer(e api.Event) bool {
	return e.Client == ""
}

// isName: may a client be called so? A Connect has that rule: there it is asked for, so that there is one alone.
func isName(s string) bool {
	return packet.Check(api.Packet{Kind: api.Connect, Client: s}) == api.OK
}

// checkPeer: whoever may cancel a watch may send a message. Nothing else may be wrong with that.
func checkPeer(peer int) api.Errno {
	_, e := watch.Cancel(nil, peer, "")
	return e
}
