package block

import (
	"strings"

	"dragoman/api"
)

// joiner of pieces to the text of a payload.
type joiner struct {
	strings.Builder
}

// add a piece, if the payload has room for it.
func (j *joiner) add(piece string) api.Errno {
	if j.Len()+len(piece) > api.MaxPayload {
		return api.ErrMany
	}
	j.WriteString(piece)
	return api.OK
}

func joined(pieces []string) (string, api.Errno) {
	j := &joiner{}
	for _, p := range pieces {
		if e := j.add(p); e != api.OK {
			return "", e
		}
	}
	return j.String(), api.OK
}
