package message_test

import (
	"fmt"
	"math"
	"reflect"
	"strings"
	"testing"
	"unsafe"

	"dragoman/api"
	"dragoman/message"
)

func x(n int) string { return strings.Repeat("x", n) }

func op(number int, value string) api.Option { return api.Option{Number: number, Value: value} }

func ops(all ...api.Option) []api.Option { return all }

// get: a message with these options.
func get(all ...api.Option) api.Message { return api.Message{Code: api.CodeGet, Options: all} }

type known struct {
	m api.Message
	s string
}

// right messages, and their bytes.
func right() []known {
	return []known{
		{api.Message{}, "\x40\x00\x00\x00"},
		{api.Message{Kind: api.Non}, "\x50\x00\x00\x00"},
		{api.Message{Kind: api.Ack, Id: 258}, "\x60\x00\x01\x02"},
		{api.Message{Kind: api.Rst, Id: 65535}, "\x70\x00\xff\xff"},
		{api.Message{Code: 1, Id: 1}, "\x40\x01\x00\x01"},
		{api.Message{Code: 255, Id: 256}, "\x40\xff\x01\x00"},
		{api.Message{Kind: api.Rst, Code: 255, Id: 65535, Token: "12345678", Payload: "\xff"}, "\x78\xff\xff\xff12345678\xff\xff"},
		{api.Message{Code: 1, Token: "t"}, "\x41\x01\x00\x00t"},
		{api.Message{Code: 1, Token: "\xff\x00"}, "\x42\x01\x00\x00\xff\x00"},
		{api.Message{Code: 3, Payload: "hi"}, "\x40\x03\x00\x00\xffhi"},
		{api.Message{Code: 3, Payload: "\xff\xff\x00"}, "\x40\x03\x00\x00\xff\xff\xff\x00"},
		{api.Message{Code: 3, Payload: x(200)}, "\x40\x03\x00\x00\xff" + x(200)},
		{api.Message{Kind: 1, Code: 69, Id: 258, Token: "t", Options: ops(op(6, "\x05"), op(11, "a"), op(11, "b")), Payload: "hi"}, "\x51\x45\x01\x02t\x61\x05\x51a\x01b\xffhi"},
		{get(op(0, "")), "\x40\x01\x00\x00\x00"},
		{get(op(0, ""), op(0, "")), "\x40\x01\x00\x00\x00\x00"},
		{get(op(0, "\xff")), "\x40\x01\x00\x00\x01\xff"},
		{get(op(12, "")), "\x40\x01\x00\x00\xc0"},
		{get(op(13, "")), "\x40\x01\x00\x00\xd0\x00"},
		{get(op(14, "")), "\x40\x01\x00\x00\xd0\x01"},
		{get(op(268, "")), "\x40\x01\x00\x00\xd0\xff"},
		{get(op(269, "")), "\x40\x01\x00\x00\xe0\x00\x00"},
		{get(op(270, "")), "\x40\x01\x00\x00\xe0\x00\x01"},
		{get(op(269+256, "")), "\x40\x01\x00\x00\xe0\x01\x00"},
		{get(op(65535, "")), "\x40\x01\x00\x00\xe0\xfe\xf2"},
		{get(op(1, x(12))), "\x40\x01\x00\x00\x1c" + x(12)},
		{get(op(1, x(13))), "\x40\x01\x00\x00\x1d\x00" + x(13)},
		{get(op(1, x(14))), "\x40\x01\x00\x00\x1d\x01" + x(14)},
		{get(op(1, x(60))), "\x40\x01\x00\x00\x1d\x2f" + x(60)},
		{get(op(13, x(13))), "\x40\x01\x00\x00\xdd\x00\x00" + x(13)},
		{get(op(20, x(60))), "\x40\x01\x00\x00\xdd\x07\x2f" + x(60)}, // the bytes of Number ahead of those of Value
		{get(op(300, x(20))), "\x40\x01\x00\x00\xed\x00\x1f\x07" + x(20)},
		{get(op(100, "a"), op(113, "b"), op(382, "c"), op(382, ""), op(383, "d")), "\x40\x01\x00\x00\xd1\x57a\xd1\x00b\xe1\x00\x00c\x00\x11d"},
		{get(make([]api.Option, 12)...), "\x40\x01\x00\x00" + strings.Repeat("\x00", 12)},
		{api.Message{Code: 69, Options: ops(op(23, "\xff\xff")), Payload: "p"}, "\x40\x45\x00\x00\xd2\x0a\xff\xff\xffp"},
	}
}

// isSame: are two messages the same? (An empty list may be nil or not.)
func isSame(a, b api.Message) bool {
	return fmt.Sprintf("%#v", tidy(a)) == fmt.Sprintf("%#v", tidy(b))
}

func tidy(m api.Message) api.Message {
	m.Options = append([]api.Option{}, m.Options...)
	return m
}

func isNone(m api.Message) bool { return isSame(m, api.Message{}) }

func TestE1RightMessagesAreRight(t *testing.T) {
	for _, c := range right() {
		if e := message.Check(c.m); e != api.OK {
			t.Errorf("Check(%v) is %d", c.m, e)
		}
	}
}

type faulty struct {
	m    api.Message
	want api.Errno
}

// wrong messages: of what, and of several things that are wrong which one is told.
func wrong() []faulty {
	many := make([]api.Option, 13)
	falling := ops(op(5, ""), op(4, ""))
	return []faulty{
		{api.Message{Kind: 4}, api.ErrKind},
		{api.Message{Kind: -1}, api.ErrKind},
		{api.Message{Kind: math.MinInt}, api.ErrKind},
		{api.Message{Kind: math.MaxInt}, api.ErrKind},
		{api.Message{Kind: 1 << 32}, api.ErrKind},
		{api.Message{Kind: 4, Code: 256, Id: -1, Token: x(9), Options: many, Payload: x(201)}, api.ErrKind},
		{api.Message{Kind: 4, Token: "t"}, api.ErrKind},
		{api.Message{Code: -1}, api.ErrRange},
		{api.Message{Code: 256}, api.ErrRange},
		{api.Message{Code: math.MaxInt}, api.ErrRange},
		{api.Message{Code: math.MinInt}, api.ErrRange},
		{api.Message{Code: 1 << 32}, api.ErrRange},
		{api.Message{Id: -1}, api.ErrRange},
		{api.Message{Id: 65536}, api.ErrRange},
		{api.Message{Id: math.MaxInt}, api.ErrRange},
		{api.Message{Id: math.MinInt}, api.ErrRange},
		{api.Message{Code: 256, Token: x(9)}, api.ErrRange},
		{api.Message{Code: 1, Id: 65536, Payload: x(201)}, api.ErrRange},
		{api.Message{Code: 1, Id: -1, Options: many}, api.ErrRange},
		{api.Message{Code: 256, Options: falling}, api.ErrRange},
		{api.Message{Id: 65536, Token: "t"}, api.ErrRange},
		{api.Message{Code: 1, Token: x(9)}, api.ErrMany},
		{api.Message{Code: 1, Options: many}, api.ErrMany},
		{api.Message{Code: 1, Payload: x(201)}, api.ErrMany},
		{api.Message{Token: x(9)}, api.ErrMany}, // ErrForm is named last
		{api.Message{Options: many}, api.ErrMany},
		{api.Message{Payload: x(201)}, api.ErrMany},
		{api.Message{Code: 1, Token: x(9), Options: ops(op(-1, ""))}, api.ErrMany},
		{api.Message{Code: 1, Payload: x(201), Options: falling}, api.ErrMany},
		{api.Message{Code: 1, Options: append(ops(op(7, ""), op(-1, "")), many...)}, api.ErrMany},
		{get(op(-1, "")), api.ErrRange},
		{get(op(65536, "")), api.ErrRange},
		{get(op(math.MinInt, "")), api.ErrRange},
		{get(op(math.MaxInt, "")), api.ErrRange},
		{get(op(1, ""), op(65536, "")), api.ErrRange},
		{get(op(1, ""), op(-1, "")), api.ErrRange}, // ErrState is named behind
		{get(op(65536, x(61))), api.ErrRange},
		{get(op(-1, x(61))), api.ErrRange},
		{get(op(5, ""), op(4, "")), api.ErrState},
		{get(op(1, ""), op(0, "")), api.ErrState},
		{get(op(65535, ""), op(65534, "")), api.ErrState},
		{get(op(1, ""), op(3, ""), op(2, "")), api.ErrState}, // less than the one ahead, if more than another
		{get(op(5, ""), op(4, x(61))), api.ErrState},
		{get(op(1, x(61))), api.ErrMany},
		{get(op(0, ""), op(0, x(61))), api.ErrMany},
		{get(op(5, x(61)), op(4, "")), api.ErrMany}, // the first option of which something is wrong tells
		{get(op(5, x(61)), op(65536, "")), api.ErrMany},
		{get(op(5, ""), op(4, ""), op(65536, "")), api.ErrState},
		{get(op(5, ""), op(65536, ""), op(4, "")), api.ErrRange},
		{get(op(65536, ""), op(4, x(61))), api.ErrRange},
		{api.Message{Token: "t"}, api.ErrForm},
		{api.Message{Token: "\x00"}, api.ErrForm},
		{api.Message{Payload: "p"}, api.ErrForm},
		{api.Message{Options: ops(op(0, ""))}, api.ErrForm},
		{api.Message{Kind: api.Rst, Id: 9, Token: "12345678", Options: ops(op(1, "v")), Payload: x(200)}, api.ErrForm},
		{api.Message{Options: ops(op(-1, ""))}, api.ErrRange},
		{api.Message{Options: falling}, api.ErrState},
		{api.Message{Options: ops(op(1, x(61)))}, api.ErrMany},
	}
}

func TestE1WrongMessages(t *testing.T) {
	for _, c := range wrong() {
		if e := message.Check(c.m); e != c.want {
			t.Errorf("Check(%v) is %d, must be %d", c.m, e, c.want)
		}
		if s, e := message.Encode(c.m); s != "" || e != c.want {
			t.Errorf("Encode(%v) is %q %d, must be %d", c.m, s, e, c.want)
		}
	}
}

func TestE1KindsCodesAndIds(t *testing.T) {
	want := func(n, most int, wrong api.Errno) api.Errno {
		if n < 0 || n > most {
			return wrong
		}
		return api.OK
	}
	for n := -300; n < 600; n++ {
		if e := message.Check(api.Message{Kind: n}); e != want(n, 3, api.ErrKind) {
			t.Errorf("Check of kind %d is %d", n, e)
		}
		if e := message.Check(api.Message{Code: n}); e != want(n, 255, api.ErrRange) {
			t.Errorf("Check of code %d is %d", n, e)
		}
	}
	for n := -300; n < 66000; n++ {
		if e := message.Check(api.Message{Id: n}); e != want(n, 65535, api.ErrRange) {
			t.Errorf("Check of Id %d is %d", n, e)
		}
		if e := message.Check(get(op(n, ""))); e != want(n, 65535, api.ErrRange) {
			t.Errorf("Check of an option of %d is %d", n, e)
		}
	}
}

func TestE2RightMessagesAndTheirBytes(t *testing.T) {
	for _, c := range right() {
		if s, e := message.Encode(c.m); s != c.s || e != api.OK {
			t.Errorf("Encode(%v) is %q %d, must be %q", c.m, s, e, c.s)
		}
		if m, e := message.Decode(c.s); !isSame(m, c.m) || e != api.OK {
			t.Errorf("Decode(%q) is %v %d, must be %v", c.s, m, e, c.m)
		}
	}
}

func one(n int) string { return string([]byte{byte(n)}) }

// pair of bytes of a number.
func pair(n int) string { return string([]byte{byte(n >> 8), byte(n)}) }

// raw bytes of a message, as the document lays them down, whatever is wrong with it (but for numbers that its bytes can't tell).
func raw(m api.Message) string {
	out := one(64+m.Kind*16+len(m.Token)) + one(m.Code) + pair(m.Id) + m.Token
	told := func(n int) (int, string) {
		if n < 13 {
			return n, ""
		}
		if n <= 268 {
			return 13, one(n - 13)
		}
		return 14, pair(n - 269)
	}
	ahead := 0
	for _, o := range m.Options {
		a, as := told(o.Number - ahead)
		b, bs := told(len(o.Value))
		out += one(a*16+b) + as + bs + o.Value
		ahead = o.Number
	}
	if m.Payload != "" {
		out += "\xff" + m.Payload
	}
	return out
}

// hasBytes: is each number of a message one that its bytes can tell?
func hasBytes(m api.Message) bool {
	ok := m.Kind >= 0 && m.Kind <= 3 && m.Code >= 0 && m.Code <= 255 && m.Id >= 0 && m.Id <= 65535 && len(m.Token) <= 8
	ahead := 0
	for _, o := range m.Options {
		ok = ok && o.Number >= ahead && o.Number-ahead <= 269+65535
		ahead = o.Number
	}
	return ok
}

func TestE2WhatElseIsWrongIsToldByCheck(t *testing.T) {
	all := append(wrong(),
		faulty{get(op(65804, "")), api.ErrRange},
		faulty{get(op(65804, ""), op(131608, x(61))), api.ErrRange},
		faulty{get(op(65535, ""), op(65536, "")), api.ErrRange},
		faulty{get(op(1, x(61)), op(65536, "")), api.ErrMany},
		faulty{get(op(1, x(268))), api.ErrMany},
		faulty{get(op(1, x(269))), api.ErrMany},
		faulty{get(op(1, x(65804))), api.ErrMany},
		faulty{get(op(65536, x(65804))), api.ErrRange},
		faulty{api.Message{Code: 1, Options: ops(op(65536, "")), Payload: x(201)}, api.ErrMany},
		faulty{api.Message{Options: ops(op(65536, "")), Payload: "p"}, api.ErrRange},
		faulty{api.Message{Code: 3, Payload: x(70000)}, api.ErrMany},
	)
	tried := 0
	for _, c := range all {
		if !hasBytes(c.m) {
			continue
		}
		tried++
		if m, e := message.Decode(raw(c.m)); e != c.want || !isNone(m) {
			t.Errorf("Decode(%.40q, %d bytes) is %v %d, must be %d", raw(c.m), len(raw(c.m)), m, e, c.want)
		}
	}
	if tried < 25 {
		t.Errorf("only %d are tried", tried)
	}
	for _, c := range right() {
		if raw(c.m) != c.s {
			t.Errorf("the bytes of %v are taken to be %q", c.m, raw(c.m))
		}
	}
}

func TestE2BytesThatNoMessageHas(t *testing.T) {
	for _, s := range []string{
		"", "@", "@\x00", "@\x00\x00", "@\x01\x00", // not all of the head
		"\x00\x00\x00\x00", "\x3f\x01\x00\x00" + x(15), "\x30\x01\x00\x00", "\x80\x01\x00\x00", "\xc0\x01\x00\x00", "\xff\x01\x00\x00" + x(15), // no such version
		"A\x01\x00\x00", "H\x01\x00\x001234567", // not all of the token
		"I\x01\x00\x00123456789", "J\x01\x00\x00" + x(10), "O\x01\x00\x00" + x(15), "I\x00\x00\x00123456789", "I\x01\x00\x00", // more than MaxToken
		"@\x01\x00\x00\xff", "A\x01\x00\x00t\xff", "@\x01\x00\x00\x00\xff", "@\x00\x00\x00\xff", // a payload of no bytes
		"@\x01\x00\x00\xf0", "@\x01\x00\x00\xf1a", "@\x01\x00\x00\xfe\x00\x00" + x(269), "@\x01\x00\x00\xfd\x00" + x(13), // a half of 15
		"@\x01\x00\x00\x0f", "@\x01\x00\x00\x0f" + x(15), "@\x01\x00\x00\xdf\x00" + x(15), "@\x01\x00\x00\xef\x00\x00" + x(15), "@\x01\x00\x00\x0f" + x(300),
		"@\x01\x00\x00\xd0", "@\x01\x00\x00\xe0", "@\x01\x00\x00\xe0\x00", // not all of a number
		"@\x01\x00\x00\x0d", "@\x01\x00\x00\x0d\x00", "@\x01\x00\x00\x0e", "@\x01\x00\x00\x0e\x00", "@\x01\x00\x00\x0e\x00\x00", "@\x01\x00\x00\xdd\x00", "@\x01\x00\x00\xed\x00\x00", "@\x01\x00\x00\xee\x00\x00\x00",
		"@\x01\x00\x00\x01", "@\x01\x00\x00\x02a", "@\x01\x00\x00\x0c" + x(11), "@\x01\x00\x00\x0d\x00" + x(12), "@\x01\x00\x00\x0d\xff" + x(267), "@\x01\x00\x00\x0e\x00\x00" + x(268), "@\x01\x00\x00\x0e\xff\xff" + x(65803), // not all of a value
		"@\x00\x00\x00\x00", "A\x00\x00\x00t", "@\x00\x00\x00\xffp", // there is one, but Check says ErrForm
	} {
		if m, e := message.Decode(s); e != api.ErrForm || !isNone(m) {
			t.Errorf("Decode(%.40q, %d bytes) is %v %d", s, len(s), m, e)
		}
	}
}

// What is great, but of its form, is of its form: Check tells. What is not of its form is ErrForm, whatever else is wrong.
func TestE2GreatAndOfItsForm(t *testing.T) {
	many := func(s string, n int) string { return strings.Repeat(s, n) }
	head := "@\x01\x00\x00"
	for _, c := range []struct {
		s    string
		want api.Errno
	}{
		{head + many("\x00", 12), api.OK},
		{head + many("\x00", 13), api.ErrMany},
		{head + many("\x00", 14), api.ErrMany},
		{head + many("\x00", 100000), api.ErrMany},
		{head + many("\x00", 13) + "\xffp", api.ErrMany},
		{head + many("\x00", 13) + "\xff", api.ErrForm},
		{head + many("\x00", 100000) + "\x01", api.ErrForm},
		{head + many("\x00", 100000) + "\xf0", api.ErrForm},
		{head + many("\xe0\xff\xff", 100000), api.ErrMany},
		{head + many("\xe0\xff\xff", 12), api.ErrRange},
		{head + many("\xe0\xff\xff", 12) + "\xff", api.ErrForm},
		{head + "\xe0\xff\xff\x01", api.ErrForm},
		{head + "\x0d\x30" + x(61), api.ErrMany},
		{head + "\x0d\x30" + x(61) + "\xe0\xff\xff", api.ErrMany},
		{head + "\x0d\x30" + x(61) + "\xe0\xff", api.ErrForm},
		{head + "\xff" + many("\x00", 3000000), api.ErrMany},
		{"@\x00\x00\x00" + many("\x00", 13), api.ErrMany},
		{"@\x00\x00\x00" + many("\x00", 12), api.ErrForm},
		{"I\x01\x00\x00" + x(9) + "\xff" + x(201), api.ErrForm},
	} {
		m, e := message.Decode(c.s)
		if e != c.want || e != api.OK && !isNone(m) {
			t.Errorf("Decode(%.20q, %d bytes) is %v %d, must be %d", c.s, len(c.s), m, e, c.want)
		}
	}
}

func TestE2EachFirstByte(t *testing.T) {
	for b := 0; b < 256; b++ {
		rest := "\x01\x00\x09" + x(b%16)
		m, e := message.Decode(one(b) + rest)
		if b < 64 || b >= 128 || b%16 > api.MaxToken {
			if e != api.ErrForm || !isNone(m) {
				t.Errorf("Decode behind %#x is %v %d", b, m, e)
			}
			continue
		}
		want := api.Message{Kind: b / 16 % 4, Code: 1, Id: 9, Token: x(b % 16)}
		if e != api.OK || !isSame(m, want) {
			t.Errorf("Decode behind %#x is %v %d, must be %v", b, m, e, want)
		}
	}
}

func TestE3WhatIsDecodedHasTheseBytes(t *testing.T) {
	decoded := 0
	try := func(s string) {
		m, e := message.Decode(s)
		if e != api.OK {
			if !isNone(m) {
				t.Errorf("Decode(%q) is %v %d", s, m, e)
			}
			return
		}
		decoded++
		if back, f := message.Encode(m); f != api.OK || back != s {
			t.Errorf("Decode(%q) is %v, and its bytes are %q %d", s, m, back, f)
		}
	}
	for _, c := range right() {
		for i := range c.s {
			if i > 24 {
				break
			}
			for b := 0; b < 256; b++ {
				try(c.s[:i] + one(b) + c.s[i+1:])
				try(c.s[:i] + one(b) + c.s[i:])
				try(c.s[:i] + one(b))
			}
			try(c.s[:i])
			try(c.s[:i] + c.s[i+1:])
			try(c.s[i:])
		}
		try(c.s + c.s)
	}
	if decoded < 20000 {
		t.Errorf("only %d were decoded", decoded)
	}
}

func TestE3WhatIsEncodedIsDecodedAsItWas(t *testing.T) {
	tried := 0
	try := func(m api.Message) {
		s, e := message.Encode(m)
		if e != api.OK || s != raw(m) {
			t.Errorf("Encode(%v) is %q %d, must be %q", m, s, e, raw(m))
		}
		if back, e := message.Decode(s); e != api.OK || !isSame(back, m) {
			t.Errorf("Decode(%q) is %v %d, must be %v", s, back, e, m)
		}
		tried++
	}
	for kind := api.Con; kind <= api.Rst; kind++ {
		for code := 1; code < 256; code++ {
			try(api.Message{Kind: kind, Code: code, Id: code * 257, Token: x(code % 9), Payload: x(code % 201)})
		}
	}
	for n := 0; n <= api.MaxPayload; n++ {
		try(api.Message{Code: 3, Payload: strings.Repeat("\xff", n)})
		try(api.Message{Code: 3, Options: ops(op(n, "\xff")), Payload: strings.Repeat("\x00", n)})
	}
	for n := 0; n <= api.MaxNumber; n += 1 + n/600 {
		try(get(op(n, x(n%61))))
		try(get(op(n, ""), op(n, x(n%61)), op(api.MaxNumber, x(60-n%61))))
		try(get(op(n/3, "\xff"), op(n/2, ""), op(n, "z")))
	}
	for n := 0; n <= api.MaxOption; n++ {
		try(get(op(1, x(n)), op(1, x(n)), op(14, x(n)), op(283, x(n))))
	}
	for n := 0; n <= api.MaxOptions; n++ {
		m := get()
		for i := range n {
			m.Options = append(m.Options, op(i*i*40, x(i*5)))
		}
		try(m)
	}
	if tried < 2000 {
		t.Errorf("only %d are tried", tried)
	}
}

func TestP1NothingPanics(t *testing.T) {
	defer func() {
		if r := recover(); r != nil {
			t.Fatalf("panic: %v", r)
		}
	}()
	numbers := []int{math.MinInt, math.MinInt32, -1, 0, 1, 3, 4, 12, 13, 255, 256, 268, 269, 65535, 65536, math.MaxInt32, math.MaxInt}
	for _, a := range numbers {
		for _, b := range numbers {
			for _, m := range []api.Message{
				{Kind: a, Code: b}, {Code: a, Id: b}, {Kind: a, Id: b, Token: x(99)}, get(op(a, ""), op(b, "")), get(op(a, x(300)), op(b, "")),
				{Code: a, Options: ops(op(b, "v"))}, {Code: a, Options: []api.Option{}, Payload: x(300)},
			} {
				s, e := message.Encode(m)
				if f := message.Check(m); f != e || e != api.OK && s != "" {
					t.Errorf("Check(%v) is %d, Encode %q %d", m, f, s, e)
				}
			}
		}
	}
	for a := 0; a < 256; a++ {
		for b := 0; b < 256; b++ {
			message.Decode(one(a) + one(b))
			message.Decode(one(a) + "\x01\x00\x00" + one(b) + one(b))
			message.Decode("@\x01\x00\x00" + one(a) + one(b))
			message.Decode("@\x01\x00\x00" + one(a) + one(b) + one(b) + strings.Repeat("\xff", b))
			message.Decode("@\x01\x00\x00" + one(a) + strings.Repeat(one(b), a))
		}
	}
}

func TestP2WhatIsHandedInIsOnlyRead(t *testing.T) {
	list := func() []api.Option { return ops(op(6, "a"), op(11, "b"), op(5, "c"), op(-1, "d")) }
	room := list()
	message.Check(get(room[:2]...))
	message.Encode(get(room[:2]...))
	message.Check(get(room...))
	message.Encode(get(room...))
	if !reflect.DeepEqual(room, list()) {
		t.Errorf("options are %v now", room)
	}
}

// within: does a text lie in the memory of another one?
func within(part, all string) bool {
	if part == "" || all == "" {
		return false
	}
	at := uintptr(unsafe.Pointer(unsafe.StringData(part)))
	from := uintptr(unsafe.Pointer(unsafe.StringData(all)))
	return at >= from && at < from+uintptr(len(all))
}

func TestP2AnswersAreNewMemory(t *testing.T) {
	for _, c := range right() {
		m, _ := message.Decode(c.s)
		texts := []string{m.Token, m.Payload}
		for _, o := range m.Options {
			texts = append(texts, o.Value)
		}
		for _, s := range texts {
			if within(s, c.s) {
				t.Errorf("Decode(%q): %q is a piece of it", c.s, s)
			}
		}
	}
	s := "\x40\x01\x00\x00\x61\x05\x51a"
	m, _ := message.Decode(s)
	n, _ := message.Decode(s)
	m.Options[0].Value = "changed"
	m.Options = append(m.Options[:1], op(7, "more"))
	if want := ops(op(6, "\x05"), op(11, "a")); !reflect.DeepEqual(n.Options, want) {
		t.Errorf("two answers share a list: %v", n)
	}
}

func TestP2NilAndEmptyListsAreOne(t *testing.T) {
	for _, m := range []api.Message{{}, {Code: 1, Token: "t", Payload: "p"}} {
		s, e := message.Encode(m)
		m.Options = make([]api.Option, 0, 3)
		if again, f := message.Encode(m); again != s || e != api.OK || f != api.OK || message.Check(m) != api.OK {
			t.Errorf("Encode(%v) is %q %d, and %q %d", m, s, e, again, f)
		}
	}
}

func TestP3OneAnswerForOneQuestion(t *testing.T) {
	for range 3 {
		for i, c := range right() {
			message.Encode(wrong()[i].m)
			message.Decode(c.s[:len(c.s)-1])
			if s, e := message.Encode(c.m); s != c.s || e != api.OK {
				t.Errorf("Encode(%v) is %q %d now", c.m, s, e)
			}
			if m, e := message.Decode(c.s); !isSame(m, c.m) || e != api.OK {
				t.Errorf("Decode(%q) is %v %d now", c.s, m, e)
			}
		}
	}
}

func TestP4GreatThings(t *testing.T) {
	great := strings.Repeat("\x00", 8<<20)
	for _, c := range []faulty{
		{api.Message{Code: 1, Token: great}, api.ErrMany},
		{api.Message{Code: 1, Payload: great}, api.ErrMany},
		{api.Message{Code: 1, Options: make([]api.Option, 1<<20)}, api.ErrMany},
		{get(op(1, great)), api.ErrMany},
	} {
		if s, e := message.Encode(c.m); s != "" || e != c.want {
			t.Errorf("Encode of something great is %d bytes, %d, must be %d", len(s), e, c.want)
		}
	}
	for _, c := range []struct {
		s    string
		want api.Errno
	}{
		{"@\x01\x00\x00" + great, api.ErrMany},
		{"@\x01\x00\x00" + great + "\xff", api.ErrForm},
		{"@\x01\x00\x00\xff" + great, api.ErrMany},
		{"@\x01\x00\x00" + strings.Repeat("\xe0\xff\xff", 2<<20), api.ErrMany},
		{great, api.ErrForm},
	} {
		if m, e := message.Decode(c.s); !isNone(m) || e != c.want {
			t.Errorf("Decode of something great, %.9q.., is %d, must be %d", c.s, e, c.want)
		}
	}
}
