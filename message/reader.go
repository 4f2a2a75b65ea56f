package message

import (
	"strings"

	"dragoman/api"
	"dragoman/wire"
)

// reader of a message's bytes: those that are left, and whether something in them can't be.
type reader struct {
	left  string
	wrong bool
}

// read the message that has just these bytes, right or wrong otherwise; false, if there is none.
func read(s string) (api.Message, bool) {
	r := &reader{left: s}
	m := r.message()
	return m, !r.wrong
}

// take so many bytes. (If they are not there something is wrong, and none is taken.)
func (r *reader) take(many int) string {
	if many > len(r.left) {
		r.wrong = true
		return ""
	}
	s := r.left[:many]
	r.left = r.left[many:]
	return s
}

// text of so many bytes: a copy, as a piece would hold all of the bytes in memory.
func (r *reader) text(many int) string {
	return strings.Clone(r.take(many))
}

func (r *reader) number(bytes int) int {
	// What could not be taken is told by take: it is 0 here.
	n, _ := wire.Get(r.take(bytes), 0, bytes)
	return n
}

func (r *reader) message() api.Message {
	first := r.number(1)
	kind := (first - version) / kindUnit
	many := first % kindUnit
	if first < version || kind > api.Rst || many > api.MaxToken {
		r.wrong = true
		return api.Message{}
	}
	m := api.Message{Kind: kind}
	m.Code = r.number(1)
	m.Id = r.number(idBytes)
	m.Token = r.text(many)
	m.Options = r.options()
	m.Payload = r.payload()
	return m
}

// options: of those that are too many one is enough to tell so, however many bytes come.
func (r *reader) options() []api.Option {
	var all []api.Option
	at := 0
	for !r.wrong && r.left != "" && r.left[0] != marker {
		head := r.number(1)
		at += r.amount(head / half)
		value := r.text(r.amount(head % half))
		if len(all) <= api.MaxOptions {
			all = append(all, api.Option{Number: at, Value: value})
		}
	}
	return all
}

// amount: the number that a half tells, and the bytes that follow it.
func (r *reader) amount(told int) int {
	switch told {
	case byOne:
		return fromOne + r.number(1)
	case byTwo:
		return fromTwo + r.number(2)
	}
	if told > byTwo {
		r.wrong = true
	}
	return told
}

// payload: what stands behind the marker. The marker alone tells none: without it fewer bytes would do.
func (r *reader) payload() string {
	if r.left == "" {
		return ""
	}
	r.take(1)
	if r.left == "" {
		r.wrong = true
	}
	return r.text(len(r.left))
}
