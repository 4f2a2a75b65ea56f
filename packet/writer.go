package packet

import (
	"strings"

	"dragoman/api"
	"dragoman/wire"
)

// writer of a packet's bytes. What it is handed has been checked: so no number and no text is too great for its bytes.
type writer struct {
	strings.Builder
}

// numbers, by so many bytes each.
func (w *writer) numbers(bytes int, all ...int) {
	for _, n := range all {
		s, _ := wire.Number(n, bytes)
		w.WriteString(s)
	}
}

func (w *writer) text(t string) {
	s, _ := wire.Text(t)
	w.WriteString(s)
}

// packet: what stands behind its first byte and its length.
func (w *writer) packet(p api.Packet) {
	switch p.Kind {
	case api.Connect:
		w.connect(p)
	case api.Connack:
		w.numbers(1, flag(p.Session, sessionMark), p.Code)
	case api.Publish:
		w.publish(p)
	case api.Pingreq, api.Pingresp, api.Disconnect:
		// Nothing stands there.
	default:
		w.withId(p)
	}
}

func (w *writer) connect(p api.Packet) {
	w.text(protocol)
	w.numbers(1, level, flag(p.Clean, cleanMark))
	w.numbers(pairBytes, p.Keep)
	w.text(p.Client)
}

func (w *writer) publish(p api.Packet) {
	w.text(p.Topic)
	if p.Qos == 1 {
		w.numbers(pairBytes, p.Id)
	}
	w.WriteString(p.Payload)
}

// withId: a packet that begins with its Id.
func (w *writer) withId(p api.Packet) {
	w.numbers(pairBytes, p.Id)
	for _, a := range p.Asks {
		w.text(a.Filter)
		if p.Kind == api.Subscribe {
			w.numbers(1, a.Qos)
		}
	}
	w.numbers(1, p.Codes...)
}
