package packet

import (
	"dragoman/api"
	"dragoman/topic"
)

// withoutNamed: what is there of a packet beside what its kind names.
func withoutNamed(p api.Packet) api.Packet {
	switch p.Kind {
	case api.Connect:
		p.Client, p.Clean, p.Keep = "", false, 0
	case api.Connack:
		p.Code, p.Session = 0, false
	case api.Publish:
		p.Dup, p.Qos, p.Retain = false, 0, false
		p.Topic, p.Payload, p.Id = "", "", 0
	case api.Puback, api.Unsuback:
		p.Id = 0
	case api.Subscribe, api.Unsubscribe:
		p.Id, p.Asks = 0, nil
	case api.Suback:
		p.Id, p.Codes = 0, nil
	}
	return p
}

// isBare: is there nothing but the kind?
func isBare(p api.Packet) bool {
	flags := p.Dup || p.Retain || p.Clean || p.Session
	numbers := p.Qos != 0 || p.Id != 0 || p.Keep != 0 || p.Code != 0
	texts := p.Client != "" || p.Topic != "" || p.Payload != ""
	lists := len(p.Asks) > 0 || len(p.Codes) > 0
	return !flags && !numbers && !texts && !lists
}

func checkConnect(p api.Packet) api.Errno {
	if len(p.Client) > api.MaxName {
		return api.ErrMany
	}
	if !isName(p.Client) {
		return api.ErrForm
	}
	if p.Keep < 0 || p.Keep > api.MaxKeep {
		return api.ErrRange
	}
	return api.OK
}

// isName: may a client be called so?
func isName(s string) bool {
	for i := 0; i < len(s); i++ {
		if s[i] < 33 || s[i] > 126 {
			return false
		}
	}
	return s != ""
}

func checkConnack(p api.Packet) api.Errno {
	if p.Code < 0 || p.Code > maxCode {
		return api.ErrRange
	}
	if p.Session && p.Code != 0 {
		return api.ErrState
	}
	return api.OK
}

func checkPublish(p api.Packet) api.Errno {
	if e := topic.Name(p.Topic); e != api.OK {
		return e
	}
	if len(p.Payload) > api.MaxPayload {
		return api.ErrMany
	}
	if !isQos(p.Qos) {
		return api.ErrRange
	}
	if p.Qos == 1 {
		return checkId(p.Id)
	}
	if p.Dup || p.Id != 0 {
		return api.ErrForm
	}
	return api.OK
}

func isQos(n int) bool {
	return n == 0 || n == 1
}

func checkId(n int) api.Errno {
	if n < 1 || n > api.MaxId {
		return api.ErrRange
	}
	return api.OK
}

// checkWithId: a packet that begins with its Id.
func checkWithId(p api.Packet) api.Errno {
	if e := checkId(p.Id); e != api.OK {
		return e
	}
	switch p.Kind {
	case api.Subscribe, api.Unsubscribe:
		return checkAsks(p)
	case api.Suback:
		return checkCodes(p.Codes)
	}
	return api.OK
}

func checkAsks(p api.Packet) api.Errno {
	if e := checkCount(len(p.Asks)); e != api.OK {
		return e
	}
	for _, a := range p.Asks {
		if e := topic.Filter(a.Filter); e != api.OK {
			return e
		}
		if p.Kind == api.Unsubscribe && a.Qos != 0 {
			return api.ErrForm
		}
		if !isQos(a.Qos) {
			return api.ErrRange
		}
	}
	return api.OK
}

func checkCodes(codes []int) api.Errno {
	if e := checkCount(len(codes)); e != api.OK {
		return e
	}
	for _, c := range codes {
		if !isQos(c) && c != api.Failed {
			return api.ErrRange
		}
	}
	return api.OK
}

// checkCount: how many asks there may be, and how many codes that answer them.
func checkCount(n int) api.Errno {
	if n == 0 {
		return api.ErrForm
	}
	if n > api.MaxAsks {
		return api.ErrMany
	}
	return api.OK
}
