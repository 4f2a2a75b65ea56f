package packet_test

import (
	"fmt"
	"math"
	"reflect"
	"strings"
	"testing"
	"unsafe"

	"dragoman/api"
	"dragoman/packet"
)

func x(n int) string { return strings.Repeat("x", n) }

func asks(filters ...string) []api.Ask {
	var out []api.Ask
	for _, f := range filters {
		out = append(out, api.Ask{Filter: f})
	}
	return out
}

// right packets, and their bytes.
func right() []struct {
	p api.Packet
	s string
} {
	return []struct {
		p api.Packet
		s string
	}{
		{api.Packet{Kind: api.Connect, Client: "ann"}, "\x10\x0f\x00\x04MQTT\x04\x00\x00\x00\x00\x03ann"},
		{api.Packet{Kind: api.Connect, Client: "ann", Clean: true, Keep: 60}, "\x10\x0f\x00\x04MQTT\x04\x02\x00\x3c\x00\x03ann"},
		{api.Packet{Kind: api.Connect, Client: "!", Keep: api.MaxKeep}, "\x10\x0d\x00\x04MQTT\x04\x00\xff\xff\x00\x01!"},
		{api.Packet{Kind: api.Connect, Client: "~", Clean: true, Keep: 256}, "\x10\x0d\x00\x04MQTT\x04\x02\x01\x00\x00\x01~"},
		{api.Packet{Kind: api.Connect, Client: x(20)}, "\x10\x20\x00\x04MQTT\x04\x00\x00\x00\x00\x14" + x(20)},
		{api.Packet{Kind: api.Connack}, "\x20\x02\x00\x00"},
		{api.Packet{Kind: api.Connack, Session: true}, "\x20\x02\x01\x00"},
		{api.Packet{Kind: api.Connack, Code: 1}, "\x20\x02\x00\x01"},
		{api.Packet{Kind: api.Connack, Code: 5}, "\x20\x02\x00\x05"},
		{api.Packet{Kind: api.Publish, Topic: "a/b"}, "\x30\x05\x00\x03a/b"},
		{api.Packet{Kind: api.Publish, Topic: "a/b", Payload: "hi"}, "\x30\x07\x00\x03a/bhi"},
		{api.Packet{Kind: api.Publish, Topic: "a", Retain: true, Payload: "\x00\xff"}, "\x31\x05\x00\x01a\x00\xff"},
		{api.Packet{Kind: api.Publish, Topic: "a/b", Qos: 1, Id: 1, Payload: "21"}, "\x32\x09\x00\x03a/b\x00\x0121"},
		{api.Packet{Kind: api.Publish, Topic: "a", Qos: 1, Id: 258, Retain: true}, "\x33\x05\x00\x01a\x01\x02"},
		{api.Packet{Kind: api.Publish, Topic: "a", Qos: 1, Id: api.MaxId, Dup: true}, "\x3a\x05\x00\x01a\xff\xff"},
		{api.Packet{Kind: api.Publish, Topic: "a", Qos: 1, Id: 256, Dup: true, Retain: true, Payload: "x"}, "\x3b\x06\x00\x01a\x01\x00x"},
		{api.Packet{Kind: api.Publish, Topic: x(60)}, "\x30\x3e\x00\x3c" + x(60)},
		{api.Packet{Kind: api.Publish, Topic: "a", Payload: x(124)}, "\x30\x7f\x00\x01a" + x(124)},
		{api.Packet{Kind: api.Publish, Topic: "a", Payload: x(125)}, "\x30\x80\x01\x00\x01a" + x(125)},
		{api.Packet{Kind: api.Publish, Topic: "a", Payload: x(200)}, "\x30\xcb\x01\x00\x01a" + x(200)},
		{api.Packet{Kind: api.Puback, Id: 1}, "\x40\x02\x00\x01"},
		{api.Packet{Kind: api.Puback, Id: api.MaxId}, "\x40\x02\xff\xff"},
		{api.Packet{Kind: api.Subscribe, Id: 2, Asks: []api.Ask{{Filter: "a/#", Qos: 1}}}, "\x82\x08\x00\x02\x00\x03a/#\x01"},
		{api.Packet{Kind: api.Subscribe, Id: 2, Asks: asks("a", "a", "+", "/", "#")}, "\x82\x16\x00\x02\x00\x01a\x00\x00\x01a\x00\x00\x01+\x00\x00\x01/\x00\x00\x01#\x00"},
		{api.Packet{Kind: api.Suback, Id: 3, Codes: []int{0}}, "\x90\x03\x00\x03\x00"},
		{api.Packet{Kind: api.Suback, Id: 3, Codes: []int{1, 0, api.Failed, 0, 1}}, "\x90\x07\x00\x03\x01\x00\x80\x00\x01"},
		{api.Packet{Kind: api.Unsubscribe, Id: 4, Asks: asks("a/+")}, "\xa2\x07\x00\x04\x00\x03a/+"},
		{api.Packet{Kind: api.Unsubscribe, Id: 4, Asks: asks("a", "b", "c", "d", "e")}, "\xa2\x11\x00\x04\x00\x01a\x00\x01b\x00\x01c\x00\x01d\x00\x01e"},
		{api.Packet{Kind: api.Unsuback, Id: 5}, "\xb0\x02\x00\x05"},
		{api.Packet{Kind: api.Pingreq}, "\xc0\x00"},
		{api.Packet{Kind: api.Pingresp}, "\xd0\x00"},
		{api.Packet{Kind: api.Disconnect}, "\xe0\x00"},
	}
}

// isSame: are two packets the same? (An empty list may be nil or not.)
func isSame(a, b api.Packet) bool {
	return fmt.Sprintf("%#v", tidy(a)) == fmt.Sprintf("%#v", tidy(b))
}

func tidy(p api.Packet) api.Packet {
	p.Asks = append([]api.Ask{}, p.Asks...)
	p.Codes = append([]int{}, p.Codes...)
	return p
}

func TestC1RightPacketsAreRight(t *testing.T) {
	for _, c := range right() {
		if e := packet.Check(c.p); e != api.OK {
			t.Errorf("Check(%v) is %d", c.p, e)
		}
	}
}

func TestC1Kinds(t *testing.T) {
	is := map[int]bool{1: true, 2: true, 3: true, 4: true, 8: true, 9: true, 10: true, 11: true, 12: true, 13: true, 14: true}
	for kind := -20; kind < 300; kind++ {
		if e := packet.Check(api.Packet{Kind: kind}); (e == api.ErrKind) == is[kind] {
			t.Errorf("Check of kind %d is %d", kind, e)
		}
	}
	for _, kind := range []int{math.MinInt, math.MaxInt, 1 << 32, 1<<32 + 12, -12} {
		if e := packet.Check(api.Packet{Kind: kind, Id: 1}); e != api.ErrKind {
			t.Errorf("Check of kind %d is %d", kind, e)
		}
	}
}

// fields of a packet by their names: what is put there, and which kinds name it.
func fields() map[string]func(*api.Packet) {
	return map[string]func(*api.Packet){
		"Dup":       func(p *api.Packet) { p.Dup = true },
		"Retain":    func(p *api.Packet) { p.Retain = true },
		"Clean":     func(p *api.Packet) { p.Clean = true },
		"Session":   func(p *api.Packet) { p.Session = true },
		"Qos":       func(p *api.Packet) { p.Qos = 1 },
		"Id":        func(p *api.Packet) { p.Id = 1 },
		"Keep":      func(p *api.Packet) { p.Keep = 1 },
		"Code":      func(p *api.Packet) { p.Code = 1 },
		"Client":    func(p *api.Packet) { p.Client = "c" },
		"Topic":     func(p *api.Packet) { p.Topic = "t" },
		"Payload":   func(p *api.Packet) { p.Payload = "p" },
		"Asks":      func(p *api.Packet) { p.Asks = asks("a") },
		"Codes":     func(p *api.Packet) { p.Codes = []int{0} },
		"Qos -1":    func(p *api.Packet) { p.Qos = -1 },
		"Id -1":     func(p *api.Packet) { p.Id = -1 },
		"Keep -1":   func(p *api.Packet) { p.Keep = -1 },
		"Code -1":   func(p *api.Packet) { p.Code = -1 },
		"Client \n": func(p *api.Packet) { p.Client = "\n" },
		"Asks ''":   func(p *api.Packet) { p.Asks = make([]api.Ask, 9) },
	}
}

func named() map[int]string {
	return map[int]string{
		api.Connect: " Client Clean Keep ", api.Connack: " Code Session ", api.Publish: " Dup Qos Retain Topic Payload Id ",
		api.Puback: " Id ", api.Unsuback: " Id ", api.Subscribe: " Id Asks ", api.Suback: " Id Codes ", api.Unsubscribe: " Id Asks ",
		api.Pingreq: "", api.Pingresp: "", api.Disconnect: "",
	}
}

func TestC1NothingIsThereThatTheKindDoesNotName(t *testing.T) {
	for _, c := range right() {
		for name, put := range fields() {
			p := c.p
			put(&p)
			field, _, _ := strings.Cut(name, " ")
			if strings.Contains(named()[p.Kind], " "+field+" ") {
				continue
			}
			if e := packet.Check(p); e != api.ErrForm {
				t.Errorf("Check of kind %d with %s is %d", p.Kind, name, e)
			}
			if s, e := packet.Encode(p); s != "" || e != api.ErrForm {
				t.Errorf("Encode of kind %d with %s is %q %d", p.Kind, name, s, e)
			}
		}
	}
}

// It is named ahead of whatever else is wrong, the kind alone ahead of it.
func TestC1WhatIsNotNamedComesFirst(t *testing.T) {
	for _, c := range []struct {
		p    api.Packet
		want api.Errno
	}{
		{api.Packet{Kind: 5, Client: "c", Topic: "t"}, api.ErrKind},
		{api.Packet{Kind: 0, Codes: []int{9}}, api.ErrKind},
		{api.Packet{Kind: api.Connect, Client: x(21), Id: 1}, api.ErrForm},
		{api.Packet{Kind: api.Connect, Client: "c", Keep: -1, Qos: 1}, api.ErrForm},
		{api.Packet{Kind: api.Connack, Code: 6, Clean: true}, api.ErrForm},
		{api.Packet{Kind: api.Connack, Session: true, Code: 1, Keep: 1}, api.ErrForm},
		{api.Packet{Kind: api.Publish, Topic: x(61), Client: "c"}, api.ErrForm},
		{api.Packet{Kind: api.Puback, Id: 0, Dup: true}, api.ErrForm},
		{api.Packet{Kind: api.Puback, Id: 65536, Codes: []int{0}}, api.ErrForm},
		{api.Packet{Kind: api.Unsuback, Id: -1, Asks: asks("a")}, api.ErrForm},
		{api.Packet{Kind: api.Subscribe, Asks: asks("a"), Codes: []int{0}}, api.ErrForm},
		{api.Packet{Kind: api.Subscribe, Id: 1, Qos: 1, Asks: make([]api.Ask, 6)}, api.ErrForm},
		{api.Packet{Kind: api.Suback, Codes: []int{2}, Asks: asks("a")}, api.ErrForm},
		{api.Packet{Kind: api.Unsubscribe, Asks: asks("a"), Retain: true}, api.ErrForm},
	} {
		if e := packet.Check(c.p); e != c.want {
			t.Errorf("Check(%v) is %d, must be %d", c.p, e, c.want)
		}
	}
}

// wrong packets that name nothing that their kind does not.
func wrong() []struct {
	p    api.Packet
	want api.Errno
} {
	sub := func(id int, asks ...api.Ask) api.Packet { return api.Packet{Kind: api.Subscribe, Id: id, Asks: asks} }
	un := func(id int, asks ...api.Ask) api.Packet { return api.Packet{Kind: api.Unsubscribe, Id: id, Asks: asks} }
	back := func(id int, codes ...int) api.Packet { return api.Packet{Kind: api.Suback, Id: id, Codes: codes} }
	return []struct {
		p    api.Packet
		want api.Errno
	}{
		{api.Packet{Kind: api.Connect}, api.ErrForm},
		{api.Packet{Kind: api.Connect, Client: x(21)}, api.ErrMany},
		{api.Packet{Kind: api.Connect, Client: x(20) + " "}, api.ErrMany},
		{api.Packet{Kind: api.Connect, Client: x(19) + " "}, api.ErrForm},
		{api.Packet{Kind: api.Connect, Client: " "}, api.ErrForm},
		{api.Packet{Kind: api.Connect, Client: "a\x7f"}, api.ErrForm},
		{api.Packet{Kind: api.Connect, Client: "\xff"}, api.ErrForm},
		{api.Packet{Kind: api.Connect, Client: "\x00a"}, api.ErrForm},
		{api.Packet{Kind: api.Connect, Client: "a\x1fb"}, api.ErrForm},
		{api.Packet{Kind: api.Connect, Client: "a", Keep: -1}, api.ErrRange},
		{api.Packet{Kind: api.Connect, Client: "a", Keep: 65536}, api.ErrRange},
		{api.Packet{Kind: api.Connect, Client: "a", Keep: math.MinInt}, api.ErrRange},
		{api.Packet{Kind: api.Connect, Keep: 65536}, api.ErrForm},
		{api.Packet{Kind: api.Connect, Client: x(21), Keep: 65536}, api.ErrMany},
		{api.Packet{Kind: api.Connack, Code: -1}, api.ErrRange},
		{api.Packet{Kind: api.Connack, Code: 6}, api.ErrRange},
		{api.Packet{Kind: api.Connack, Code: 255}, api.ErrRange},
		{api.Packet{Kind: api.Connack, Code: 6, Session: true}, api.ErrRange},
		{api.Packet{Kind: api.Connack, Code: -1, Session: true}, api.ErrRange},
		{api.Packet{Kind: api.Connack, Code: 1, Session: true}, api.ErrState},
		{api.Packet{Kind: api.Connack, Code: 5, Session: true}, api.ErrState},
		{api.Packet{Kind: api.Publish}, api.ErrForm},
		{api.Packet{Kind: api.Publish, Topic: "#"}, api.ErrForm},
		{api.Packet{Kind: api.Publish, Topic: "a/+"}, api.ErrForm},
		{api.Packet{Kind: api.Publish, Topic: "a b"}, api.ErrForm},
		{api.Packet{Kind: api.Publish, Topic: x(61)}, api.ErrMany},
		{api.Packet{Kind: api.Publish, Topic: "a/b/c/d/e/f/g"}, api.ErrMany},
		{api.Packet{Kind: api.Publish, Topic: "a", Payload: x(201)}, api.ErrMany},
		{api.Packet{Kind: api.Publish, Topic: "#", Payload: x(201)}, api.ErrForm},
		{api.Packet{Kind: api.Publish, Topic: "a", Payload: x(201), Dup: true}, api.ErrMany},
		{api.Packet{Kind: api.Publish, Topic: "a", Payload: x(201), Qos: 1}, api.ErrMany},
		{api.Packet{Kind: api.Publish, Topic: "a", Payload: x(201), Qos: 2}, api.ErrMany},
		{api.Packet{Kind: api.Publish, Topic: "a", Qos: 2, Id: 1}, api.ErrRange},
		{api.Packet{Kind: api.Publish, Topic: "a", Qos: 3, Id: 1}, api.ErrRange},
		{api.Packet{Kind: api.Publish, Topic: "a", Qos: -1, Id: 1, Dup: true}, api.ErrRange},
		{api.Packet{Kind: api.Publish, Topic: "+", Qos: 2, Id: 1}, api.ErrForm},
		{api.Packet{Kind: api.Publish, Topic: "a", Dup: true}, api.ErrForm},
		{api.Packet{Kind: api.Publish, Topic: "a", Dup: true, Retain: true}, api.ErrForm},
		{api.Packet{Kind: api.Publish, Topic: x(61), Dup: true}, api.ErrMany},
		{api.Packet{Kind: api.Publish, Topic: "a", Id: 1}, api.ErrForm},
		{api.Packet{Kind: api.Publish, Topic: "a", Id: -1}, api.ErrForm},
		{api.Packet{Kind: api.Publish, Topic: "a", Id: 65536}, api.ErrForm},
		{api.Packet{Kind: api.Publish, Topic: x(61), Id: 1}, api.ErrMany},
		{api.Packet{Kind: api.Publish, Topic: "a", Qos: 1}, api.ErrRange},
		{api.Packet{Kind: api.Publish, Topic: "a", Qos: 1, Dup: true}, api.ErrRange},
		{api.Packet{Kind: api.Publish, Topic: "a", Qos: 1, Id: -1}, api.ErrRange},
		{api.Packet{Kind: api.Publish, Topic: "a", Qos: 1, Id: 65536}, api.ErrRange},
		{api.Packet{Kind: api.Publish, Topic: "#", Qos: 1}, api.ErrForm},
		{api.Packet{Kind: api.Puback}, api.ErrRange},
		{api.Packet{Kind: api.Puback, Id: -1}, api.ErrRange},
		{api.Packet{Kind: api.Puback, Id: 65536}, api.ErrRange},
		{api.Packet{Kind: api.Unsuback}, api.ErrRange},
		{api.Packet{Kind: api.Unsuback, Id: 65536}, api.ErrRange},
		{sub(0), api.ErrRange},
		{sub(0, asks("a")...), api.ErrRange},
		{sub(65536, make([]api.Ask, 6)...), api.ErrRange},
		{sub(1), api.ErrForm},
		{sub(1, asks("a", "b", "c", "d", "e", "f")...), api.ErrMany},
		{sub(1, make([]api.Ask, 6)...), api.ErrMany},
		{sub(1, make([]api.Ask, 5)...), api.ErrForm},
		{sub(1, asks("a", "")...), api.ErrForm},
		{sub(1, asks("a", "#/a")...), api.ErrForm},
		{sub(1, asks("a", x(61))...), api.ErrMany},
		{sub(1, asks("a+", x(61))...), api.ErrForm},
		{sub(1, asks(x(61), "a+")...), api.ErrMany},
		{sub(1, api.Ask{Filter: "a", Qos: 2}), api.ErrRange},
		{sub(1, api.Ask{Filter: "a", Qos: 128}), api.ErrRange},
		{sub(1, api.Ask{Filter: "a", Qos: -1}), api.ErrRange},
		{sub(1, api.Ask{Filter: "a+", Qos: 2}), api.ErrForm},
		{sub(1, api.Ask{Filter: "a", Qos: 2}, api.Ask{Filter: "a+"}), api.ErrRange},
		{sub(1, api.Ask{Filter: "a", Qos: 1}, api.Ask{Filter: x(61), Qos: 2}), api.ErrMany},
		{sub(1, api.Ask{Filter: "a", Qos: 1}, api.Ask{Filter: "a", Qos: 1}, api.Ask{Filter: "a", Qos: 1}, api.Ask{Filter: "a", Qos: 1}, api.Ask{Filter: "a", Qos: 3}), api.ErrRange},
		{un(0), api.ErrRange},
		{un(65536, asks("a")...), api.ErrRange},
		{un(1), api.ErrForm},
		{un(1, asks("a", "b", "c", "d", "e", "f")...), api.ErrMany},
		{un(1, asks(x(61), "")...), api.ErrMany},
		{un(1, asks("", x(61))...), api.ErrForm},
		{un(1, api.Ask{Filter: "a", Qos: 1}), api.ErrForm},
		{un(1, api.Ask{Filter: "a", Qos: 2}), api.ErrForm},
		{un(1, api.Ask{Filter: "a", Qos: -1}), api.ErrForm},
		{un(0, api.Ask{Filter: "a", Qos: 1}), api.ErrRange},
		{un(1, api.Ask{Filter: x(61), Qos: 1}), api.ErrMany},
		{un(1, api.Ask{Filter: "a", Qos: 1}, api.Ask{Filter: x(61)}), api.ErrForm},
		{back(0), api.ErrRange},
		{back(0, 0), api.ErrRange},
		{back(65536, 2), api.ErrRange},
		{back(1), api.ErrForm},
		{back(1, 0, 0, 0, 0, 0, 0), api.ErrMany},
		{back(1, 2, 2, 2, 2, 2, 2), api.ErrMany},
		{back(1, 2), api.ErrRange},
		{back(1, -1), api.ErrRange},
		{back(1, 127), api.ErrRange},
		{back(1, 129), api.ErrRange},
		{back(1, 0, 1, 128, 0, 3), api.ErrRange},
	}
}

func TestC1WrongPackets(t *testing.T) {
	for _, c := range wrong() {
		if e := packet.Check(c.p); e != c.want {
			t.Errorf("Check(%v) is %d, must be %d", c.p, e, c.want)
		}
		if s, e := packet.Encode(c.p); s != "" || e != c.want {
			t.Errorf("Encode(%v) is %q %d, must be %d", c.p, s, e, c.want)
		}
	}
}

func TestC1EachByteOfAClient(t *testing.T) {
	for c := 0; c < 256; c++ {
		want := api.OK
		if c < 33 || c > 126 {
			want = api.ErrForm
		}
		for _, s := range []string{"%sb", "a%s", "%s"} {
			p := api.Packet{Kind: api.Connect, Client: strings.Replace(s, "%s", string([]byte{byte(c)}), 1)}
			if e := packet.Check(p); e != want {
				t.Errorf("Check of client %q is %d, must be %d", p.Client, e, want)
			}
		}
	}
}

func TestC2RightPacketsAndTheirBytes(t *testing.T) {
	for _, c := range right() {
		if s, e := packet.Encode(c.p); s != c.s || e != api.OK {
			t.Errorf("Encode(%v) is %q %d, must be %q", c.p, s, e, c.s)
		}
		if p, e := packet.Decode(c.s); !isSame(p, c.p) || e != api.OK {
			t.Errorf("Decode(%q) is %v %d, must be %v", c.s, p, e, c.p)
		}
	}
}

// pair of bytes of a number.
func pair(n int) string { return string([]byte{byte(n >> 8), byte(n)}) }

func one(n int) string { return string([]byte{byte(n)}) }

func text(s string) string { return pair(len(s)) + s }

// whole: a first byte, how many follow, and these.
func whole(first int, s string) string {
	out := one(first)
	n := len(s)
	for ; n >= 128; n /= 128 {
		out += one(n%128 + 128)
	}
	return out + one(n) + s
}

// raw bytes of a packet, as the document lays them down, of whatever else is wrong with it.
func raw(p api.Packet) string {
	bit := func(b bool, n int) int {
		if b {
			return n
		}
		return 0
	}
	switch p.Kind {
	case api.Connect:
		return whole(0x10, text("MQTT")+one(4)+one(bit(p.Clean, 2))+pair(p.Keep)+text(p.Client))
	case api.Connack:
		return whole(0x20, one(bit(p.Session, 1))+one(p.Code))
	case api.Publish:
		s := text(p.Topic)
		if p.Qos == 1 {
			s += pair(p.Id)
		}
		return whole(0x30+bit(p.Dup, 8)+p.Qos*2+bit(p.Retain, 1), s+p.Payload)
	case api.Puback, api.Unsuback:
		return whole(p.Kind*16, pair(p.Id))
	case api.Subscribe:
		s := pair(p.Id)
		for _, a := range p.Asks {
			s += text(a.Filter) + one(a.Qos)
		}
		return whole(0x82, s)
	case api.Unsubscribe:
		s := pair(p.Id)
		for _, a := range p.Asks {
			s += text(a.Filter)
		}
		return whole(0xa2, s)
	case api.Suback:
		s := pair(p.Id)
		for _, c := range p.Codes {
			s += one(c)
		}
		return whole(0x90, s)
	}
	return whole(p.Kind*16, "")
}

// hasBytes: is each number of a packet one that its bytes can tell?
func hasBytes(p api.Packet) bool {
	isByte := func(n int) bool { return n >= 0 && n < 256 }
	ok := p.Kind != api.Publish || p.Qos == 1 || p.Qos == 0 && p.Id == 0
	ok = ok && p.Id >= 0 && p.Id < 65536 && p.Keep >= 0 && p.Keep < 65536 && isByte(p.Code)
	for _, a := range p.Asks {
		ok = ok && isByte(a.Qos) && (p.Kind != api.Unsubscribe || a.Qos == 0)
	}
	for _, c := range p.Codes {
		ok = ok && isByte(c)
	}
	return ok
}

func TestC2WhatElseIsWrongIsToldByCheck(t *testing.T) {
	tried := 0
	for _, c := range wrong() {
		if !hasBytes(c.p) {
			continue
		}
		tried++
		if p, e := packet.Decode(raw(c.p)); e != c.want || !isSame(p, api.Packet{}) {
			t.Errorf("Decode(%q) is %v %d, must be %d", raw(c.p), p, e, c.want)
		}
	}
	if tried < 50 {
		t.Errorf("only %d are tried", tried)
	}
	for _, c := range right() {
		if raw(c.p) != c.s {
			t.Errorf("the bytes of %v are taken to be %q", c.p, raw(c.p))
		}
	}
}

// What is great, but of its form, is of its form: Check tells.
func TestC2GreatAndOfItsForm(t *testing.T) {
	many := func(s string, n int) string { return strings.Repeat(s, n) }
	for _, c := range []struct {
		s    string
		want api.Errno
	}{
		{whole(0x30, text(x(65535))), api.ErrMany},
		{whole(0x32, text(x(65535))+"\x00\x00"), api.ErrMany},
		{whole(0x32, text(x(65535))+"\x00"), api.ErrForm},
		{whole(0x30, text("a")+x(3000000)), api.ErrMany},
		{whole(0x38, text("a")+x(300)), api.ErrMany},
		{whole(0x34, text("a")+x(300)), api.ErrForm},
		{whole(0x10, text("MQTT")+"\x04\x00\x00\x00"+text(x(65535))), api.ErrMany},
		{whole(0x10, text("MQTT")+"\x04\x00\x00\x00"+text(x(21))+"x"), api.ErrForm},
		{whole(0x82, "\x00\x01"+many("\x00\x00\x00", 100000)), api.ErrMany},
		{whole(0x82, "\x00\x00"+many("\x00\x00\x00", 100000)), api.ErrRange},
		{whole(0x82, "\x00\x01"+many("\x00\x00\x00", 100000)+"\x00\x00"), api.ErrForm},
		{whole(0x82, "\x00\x01"+many("\x00\x00\x00", 6)), api.ErrMany},
		{whole(0x82, "\x00\x01"+many("\x00\x00\x00", 5)), api.ErrForm},
		{whole(0xa2, "\x00\x01"+many("\x00\x00", 100000)), api.ErrMany},
		{whole(0xa2, "\x00\x01"+many("\x00\x00", 100000)+"\x00"), api.ErrForm},
		{whole(0xa2, "\x00\x01"+many("\x00\x01a", 7)), api.ErrMany},
		{whole(0x90, "\x00\x01"+many("\x02", 100000)), api.ErrMany},
		{whole(0x90, "\x00\x01"+many("\x00", 6)), api.ErrMany},
		{whole(0x90, "\x00\x00"+many("\x00", 100000)), api.ErrRange},
	} {
		if p, e := packet.Decode(c.s); e != c.want || !isSame(p, api.Packet{}) {
			t.Errorf("Decode(%.20q, %d bytes) is kind %d, %d, must be %d", c.s, len(c.s), p.Kind, e, c.want)
		}
	}
}

func TestC2BytesThatNoPacketHas(t *testing.T) {
	for _, s := range []string{
		"", "\x10", "\xc0", "\xff", "\xc0\x80",
		"\xc0\x80\x00", "\xc0\x80\x80\x00", "\xc0\x01", "\xc0\x00\x00", "\xc0\x01\x00", "\xe0\x01x",
		"\xc0\xff\xff\xff\xff", "\xc0\xff\xff\xff\x7f", "\xc0\x80\x80\x80\x00", "\xc0\x80\x80\x80\x80\x00",
		"\x30\x85\x00\x00\x03a/b", // a Long of more bytes than it needs
		"\x20\x02\x02\x00", "\x20\x02\x03\x00", "\x20\x02\x80\x00", "\x20\x01\x00", "\x20\x03\x00\x00\x00", "\x20\x00",
		"\x10\x0f\x00\x04MQTT\x04\x01\x00\x00\x00\x03ann", "\x10\x0f\x00\x04MQTT\x04\x03\x00\x00\x00\x03ann", "\x10\x0f\x00\x04MQTT\x04\x82\x00\x00\x00\x03ann",
		"\x10\x0f\x00\x04MQTT\x05\x00\x00\x00\x00\x03ann", "\x10\x0f\x00\x04MQTT\x03\x00\x00\x00\x00\x03ann", "\x10\x0f\x00\x04MQTt\x04\x00\x00\x00\x00\x03ann", "\x10\x0e\x00\x03MQT\x04\x00\x00\x00\x00\x03ann", "\x10\x10\x00\x05MQTTT\x04\x00\x00\x00\x00\x03ann",
		"\x10\x0f\x00\x04MQTT\x04\x00\x00\x00\x00\x04ann", "\x10\x0f\x00\x04MQTT\x04\x00\x00\x00\x00\x02ann", "\x10\x0a\x00\x04MQTT\x04\x00\x00\x00", "\x10\x0b\x00\x04MQTT\x04\x00\x00\x00\x00", "\x10\x00",
		"\x30\x00", "\x30\x01\x00", "\x30\x02\x00\x01", "\x32\x03\x00\x01a", "\x32\x04\x00\x01a\x00", "\x30\x06\x00\x04a/b",
		"\x34\x05\x00\x01a\x00\x01", "\x36\x05\x00\x01a\x00\x01", "\x35\x03\x00\x01a", "\x3c\x05\x00\x01a\x00\x01", "\x3e\x05\x00\x01a\x00\x01", "\x3f\x05\x00\x01a\x00\x01",
		"\x40\x00", "\x40\x01\x00", "\x40\x03\x00\x01\x00", "\x40\x03\x00\x01x", "\xb0\x01\x01", "\xb0\x03\x00\x01\x00",
		"\x82\x00", "\x82\x01\x00", "\x82\x03\x00\x01\x00", "\x82\x05\x00\x01\x00\x01a", "\x82\x07\x00\x01\x00\x01a\x00\x00", "\x82\x06\x00\x01\x00\x02a\x00",
		"\xa2\x01\x00", "\xa2\x06\x00\x01\x00\x01a\x00", "\xa2\x04\x00\x01\x00\x01",
		"\x90\x00", "\x90\x01\x00",
		"\x00\x00", "\x00\x02\x00\x01", "\x50\x02\x00\x01", "\x60\x02\x00\x01", "\x62\x02\x00\x01", "\x70\x02\x00\x01", "\xf0\x00", "\xf0\x02\x00\x01", // no such kind
	} {
		if p, e := packet.Decode(s); e != api.ErrForm || !isSame(p, api.Packet{}) {
			t.Errorf("Decode(%q) is %v %d", s, p, e)
		}
	}
}

// Of the right packets' bytes behind each first byte there may be, only those that are a packet's are one.
func TestC2EachFirstByte(t *testing.T) {
	for _, c := range right() {
		for b := 0; b < 256; b++ {
			s := one(b) + c.s[1:]
			p, e := packet.Decode(s)
			if e == api.OK && raw(p) != s || b == int(c.s[0]) && e != api.OK {
				t.Errorf("Decode(%q) is %v %d", s, p, e)
			}
			low := b % 16
			asks := b/16 == api.Subscribe || b/16 == api.Unsubscribe
			if b/16 != api.Publish && (asks && low != 2 || !asks && low != 0) && e != api.ErrForm {
				t.Errorf("Decode(%q) is %v %d, must be %d", s, p, e, api.ErrForm)
			}
		}
	}
}

func TestC3WhatIsDecodedHasTheseBytes(t *testing.T) {
	decoded := 0
	try := func(s string) {
		p, e := packet.Decode(s)
		if e != api.OK {
			if !isSame(p, api.Packet{}) {
				t.Errorf("Decode(%q) is %v %d", s, p, e)
			}
			return
		}
		decoded++
		if back, f := packet.Encode(p); f != api.OK || back != s {
			t.Errorf("Decode(%q) is %v, and its bytes are %q %d", s, p, back, f)
		}
	}
	for _, c := range right() {
		for i := range c.s {
			if i > 20 {
				break
			}
			for b := 0; b < 256; b++ {
				try(c.s[:i] + one(b) + c.s[i+1:])
				try(c.s[:i] + one(b) + c.s[i:])
				try(whole(int(c.s[0]), c.s[min(2, i):i]+one(b)))
			}
			try(c.s[:i])
			try(c.s[:i] + c.s[i+1:])
			try(c.s[i:])
		}
		try(c.s + c.s)
	}
	if decoded < 2000 {
		t.Errorf("only %d were decoded", decoded)
	}
}

func TestC3WhatIsEncodedIsDecodedAsItWas(t *testing.T) {
	tried := 0
	try := func(p api.Packet) {
		s, e := packet.Encode(p)
		if e != api.OK || s != raw(p) {
			t.Errorf("Encode(%v) is %q %d", p, s, e)
		}
		if back, e := packet.Decode(s); e != api.OK || !isSame(back, p) {
			t.Errorf("Decode(%q) is %v %d, must be %v", s, back, e, p)
		}
		tried++
	}
	ids := []int{1, 2, 127, 128, 255, 256, 257, 32767, 32768, 65534, 65535}
	for _, id := range ids {
		try(api.Packet{Kind: api.Puback, Id: id})
		try(api.Packet{Kind: api.Unsuback, Id: id})
		try(api.Packet{Kind: api.Connect, Client: "c", Keep: id, Clean: id%2 == 0})
		try(api.Packet{Kind: api.Suback, Id: id, Codes: []int{api.Failed, 1, 0}[id%3:]})
		try(api.Packet{Kind: api.Unsubscribe, Id: id, Asks: asks("a", "+/"+x(30), "#")[id%3:]})
		try(api.Packet{Kind: api.Subscribe, Id: id, Asks: []api.Ask{{Filter: "a", Qos: 1}, {Filter: "+/" + x(30)}, {Filter: x(58) + "/#", Qos: 1}}[id%3:]})
	}
	for n := 0; n <= api.MaxPayload; n++ {
		p := api.Packet{Kind: api.Publish, Topic: "a/b", Payload: x(n), Retain: n%2 == 0}
		try(p)
		p.Qos, p.Id, p.Dup = 1, n+1, n%3 == 0
		try(p)
	}
	for n := 1; n <= api.MaxTopic; n++ {
		try(api.Packet{Kind: api.Publish, Topic: x(n), Payload: "\x00\x01a"})
		try(api.Packet{Kind: api.Subscribe, Id: n, Asks: asks(x(n), x(n), x(n), x(n), x(n))})
	}
	for c := 0; c <= 5; c++ {
		try(api.Packet{Kind: api.Connack, Code: c, Session: c == 0})
	}
	if tried < 500 {
		t.Errorf("only %d are tried", tried)
	}
}

func TestP1NothingPanics(t *testing.T) {
	defer func() {
		if r := recover(); r != nil {
			t.Fatalf("panic: %v", r)
		}
	}()
	numbers := []int{math.MinInt, math.MinInt32, -1, 0, 1, 2, 255, 256, 65535, 65536, math.MaxInt32, math.MaxInt}
	for kind := -1; kind < 17; kind++ {
		for _, n := range numbers {
			for _, p := range []api.Packet{
				{Kind: kind, Id: n}, {Kind: kind, Keep: n, Client: "c"}, {Kind: kind, Code: n}, {Kind: kind, Qos: n, Topic: "a"}, {Kind: kind, Qos: n, Id: n, Topic: "a"},
				{Kind: kind, Id: 1, Codes: []int{n}}, {Kind: kind, Id: 1, Asks: []api.Ask{{Filter: "a", Qos: n}}}, {Kind: kind, Id: 1, Asks: []api.Ask{}, Codes: []int{}},
			} {
				s, e := packet.Encode(p)
				if f := packet.Check(p); f != e || e != api.OK && s != "" {
					t.Errorf("Check(%v) is %d, Encode %q %d", p, f, s, e)
				}
			}
		}
	}
	for a := 0; a < 256; a++ {
		for b := 0; b < 256; b++ {
			packet.Decode(one(a) + one(b))
			packet.Decode(one(a) + one(3) + one(b) + one(b) + one(b))
			packet.Decode(one(a) + one(b) + strings.Repeat("\x00", b))
			packet.Decode(one(a) + one(b) + strings.Repeat("\xff", b))
		}
	}
}

func TestP2WhatIsHandedInIsOnlyRead(t *testing.T) {
	room := []api.Ask{{Filter: "a", Qos: 1}, {Filter: "b"}, {Filter: "c", Qos: 7}, {Filter: "d"}}
	codes := []int{0, 1, 77, 78}
	packet.Encode(api.Packet{Kind: api.Subscribe, Id: 1, Asks: room[:2]})
	packet.Check(api.Packet{Kind: api.Unsubscribe, Id: 1, Asks: room[:2]})
	packet.Encode(api.Packet{Kind: api.Suback, Id: 1, Codes: codes[:2]})
	packet.Check(api.Packet{Kind: api.Suback, Id: 1, Codes: codes[:3]})
	if want := []api.Ask{{Filter: "a", Qos: 1}, {Filter: "b"}, {Filter: "c", Qos: 7}, {Filter: "d"}}; !reflect.DeepEqual(room, want) {
		t.Errorf("asks are %v now", room)
	}
	if want := []int{0, 1, 77, 78}; !reflect.DeepEqual(codes, want) {
		t.Errorf("codes are %v now", codes)
	}
}

// within: does a text lie in the memory of another one?
func within(part, all string) bool {
	if part == "" || all == "" {
		return false
	}
	at := uintptr(unsafe.Pointer(unsafe.StringData(part)))
	from := uintptr(unsafe.Pointer(unsafe.StringData(all)))
	return at >= from && at < from+uintptr(len(all))
}

func TestP2AnswersAreNewMemory(t *testing.T) {
	for _, c := range right() {
		p, _ := packet.Decode(c.s)
		texts := []string{p.Client, p.Topic, p.Payload}
		for _, a := range p.Asks {
			texts = append(texts, a.Filter)
		}
		for _, s := range texts {
			if within(s, c.s) {
				t.Errorf("Decode(%q): %q is a piece of it", c.s, s)
			}
		}
	}
	s := "\x82\x0a\x00\x02\x00\x01a\x01\x00\x01b\x00"
	p, _ := packet.Decode(s)
	q, _ := packet.Decode(s)
	p.Asks[0].Filter = "changed"
	p.Asks = append(p.Asks, api.Ask{Filter: "more"})
	if q.Asks[0].Filter != "a" || len(q.Asks) != 2 {
		t.Errorf("two answers share a list: %v", q)
	}
}

func TestP2NilAndEmptyListsAreOne(t *testing.T) {
	for _, c := range right() {
		p := c.p
		if p.Asks == nil {
			p.Asks = make([]api.Ask, 0, 3)
		}
		if p.Codes == nil {
			p.Codes = make([]int, 0, 3)
		}
		if s, e := packet.Encode(p); s != c.s || e != api.OK {
			t.Errorf("Encode(%v) is %q %d", p, s, e)
		}
	}
}

func TestP3OneAnswerForOneQuestion(t *testing.T) {
	for range 3 {
		for i, c := range right() {
			packet.Encode(wrong()[i].p)
			packet.Decode(raw(wrong()[i].p))
			if s, e := packet.Encode(c.p); s != c.s || e != api.OK {
				t.Errorf("Encode(%v) is %q %d now", c.p, s, e)
			}
			if p, e := packet.Decode(c.s); !isSame(p, c.p) || e != api.OK {
				t.Errorf("Decode(%q) is %v %d now", c.s, p, e)
			}
		}
	}
}

func TestP4GreatThings(t *testing.T) {
	great := strings.Repeat("\x00", 8<<20)
	for _, c := range []struct {
		p    api.Packet
		want api.Errno
	}{
		{api.Packet{Kind: api.Connect, Client: great}, api.ErrMany},
		{api.Packet{Kind: api.Publish, Topic: great}, api.ErrMany},
		{api.Packet{Kind: api.Publish, Topic: "a", Payload: great}, api.ErrMany},
		{api.Packet{Kind: api.Subscribe, Id: 1, Asks: make([]api.Ask, 1<<20)}, api.ErrMany},
		{api.Packet{Kind: api.Subscribe, Id: 1, Asks: asks(great)}, api.ErrMany},
		{api.Packet{Kind: api.Suback, Id: 1, Codes: make([]int, 1<<20)}, api.ErrMany},
	} {
		if e := packet.Check(c.p); e != c.want {
			t.Errorf("Check of something great of kind %d is %d, must be %d", c.p.Kind, e, c.want)
		}
	}
	for _, c := range []struct {
		first int
		want  api.Errno
	}{{0x30, api.ErrForm}, {0x90, api.ErrRange}, {0xa2, api.ErrRange}, {0xc0, api.ErrForm}, {0x50, api.ErrForm}} {
		if _, e := packet.Decode(whole(c.first, great)); e != c.want {
			t.Errorf("Decode of something great behind %#x is %d, must be %d", c.first, e, c.want)
		}
	}
}
