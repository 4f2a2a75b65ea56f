package packet

import (
	"strings"

	"dragoman/api"
	"dragoman/wire"
)

// reader of a packet's bytes: where it is in them, and whether something in them can't be.
type reader struct {
	bytes string
	at    int
	wrong bool
}

// read the packet that has just these bytes, right or wrong otherwise; false, if there is none.
func read(s string) (api.Packet, bool) {
	many, used, e := wire.GetLong(s, 1)
	if e != api.OK || many != len(s)-1-used {
		return api.Packet{}, false
	}
	r := &reader{bytes: s, at: 1 + used}
	p := r.packet(int(s[0]))
	return p, !r.wrong && r.at == len(s)
}

// must: how the bytes have to be.
func (r *reader) must(be bool) {
	r.wrong = r.wrong || !be
}

func (r *reader) number(bytes int) int {
	n, e := wire.Get(r.bytes, r.at, bytes)
	r.must(e == api.OK)
	if e == api.OK {
		r.at += bytes
	}
	return n
}

func (r *reader) text() string {
	t, used, e := wire.GetText(r.bytes, r.at)
	r.must(e == api.OK)
	r.at += used
	return t
}

// marked: a byte that is a mark, or 0.
func (r *reader) marked(mark int) bool {
	n := r.number(1)
	r.must(n == 0 || n == mark)
	return n == mark
}

// rest: all bytes that are left.
func (r *reader) rest() string {
	// A copy: a piece would hold all of the bytes in memory.
	t := strings.Clone(r.bytes[r.at:])
	r.at = len(r.bytes)
	return t
}

// whileLeft calls one, while there are bytes that it may read. (If it can't read them something is wrong: so this ends.)
func (r *reader) whileLeft(one func()) {
	for !r.wrong && r.at < len(r.bytes) {
		one()
	}
}

// packet that begins with this byte.
func (r *reader) packet(begin int) api.Packet {
	p := api.Packet{Kind: begin / 16}
	r.must(isKind(p.Kind))
	switch p.Kind {
	case api.Connect:
		r.connect(&p)
	case api.Connack:
		p.Session = r.marked(sessionMark)
		p.Code = r.number(1)
	case api.Publish:
		r.publish(&p, begin)
	case api.Pingreq, api.Pingresp, api.Disconnect:
		// Nothing stands there.
	default:
		r.withId(&p)
	}
	r.must(first(p) == begin)
	return p
}

func (r *reader) connect(p *api.Packet) {
	r.must(r.text() == protocol)
	r.must(r.number(1) == level)
	p.Clean = r.marked(cleanMark)
	p.Keep = r.number(pairBytes)
	p.Client = r.text()
}

func (r *reader) publish(p *api.Packet, begin int) {
	p.Dup = begin&dupMark != 0
	p.Retain = begin&retainMark != 0
	p.Topic = r.text()
	if begin&qosMark != 0 {
		p.Qos = 1
		p.Id = r.number(pairBytes)
	}
	p.Payload = r.rest()
}

// withId: a packet that begins with its Id.
func (r *reader) withId(p *api.Packet) {
	p.Id = r.number(pairBytes)
	switch p.Kind {
	case api.Subscribe, api.Unsubscribe:
		r.asks(p)
	case api.Suback:
		r.codes(p)
	}
}

// asks: of those that are too many one is enough to tell so, however many bytes come.
func (r *reader) asks(p *api.Packet) {
	r.whileLeft(func() {
		a := api.Ask{Filter: r.text()}
		if p.Kind == api.Subscribe {
			a.Qos = r.number(1)
		}
		if len(p.Asks) <= api.MaxAsks {
			p.Asks = append(p.Asks, a)
		}
	})
}

// codes: too many of them as of asks.
func (r *reader) codes(p *api.Packet) {
	r.whileLeft(func() {
		c := r.number(1)
		if len(p.Codes) <= api.MaxAsks {
			p.Codes = append(p.Codes, c)
		}
	})
}
