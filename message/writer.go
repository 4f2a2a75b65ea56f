package message

import (
	"strings"

	"dragoman/api"
	"dragoman/wire"
)

// written: the bytes of a message that has been checked: so no number is too great for its bytes.
func written(m api.Message) string {
	var out strings.Builder
	out.WriteString(number(version+m.Kind*kindUnit+len(m.Token), 1))
	out.WriteString(number(m.Code, 1))
	out.WriteString(number(m.Id, idBytes))
	out.WriteString(m.Token)
	ahead := 0
	for _, o := range m.Options {
		out.WriteString(optionHead(o.Number-ahead, len(o.Value)))
		out.WriteString(o.Value)
		ahead = o.Number
	}
	if m.Payload != "" {
		out.WriteString(number(marker, 1))
		out.WriteString(m.Payload)
	}
	return out.String()
}

// optionHead: what stands ahead of a value: how much its Number is more, and how many bytes it has.
func optionHead(more, many int) string {
	greater, moreBytes := amount(more)
	lesser, manyBytes := amount(many)
	return number(greater*half+lesser, 1) + moreBytes + manyBytes
}

// amount: the half that tells a number, and the bytes of it that follow.
func amount(n int) (int, string) {
	switch {
	case n < fromOne:
		return n, ""
	case n < fromTwo:
		return byOne, number(n-fromOne, 1)
	}
	return byTwo, number(n-fromTwo, 2)
}

func number(n, bytes int) string {
	s, _ := wire.Number(n, bytes)
	return s
}
