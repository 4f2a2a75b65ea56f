package option_test

import (
	"fmt"
	"math"
	"reflect"
	"strings"
	"testing"
	"unsafe"

	"dragoman/api"
	"dragoman/message"
	"dragoman/option"
	"dragoman/topic"
)

func x(n int) string { return strings.Repeat("x", n) }

func op(number int, value string) api.Option { return api.Option{Number: number, Value: value} }

func ops(all ...api.Option) []api.Option { return all }

// get: a message with these options.
func get(all ...api.Option) api.Message { return api.Message{Code: api.CodeGet, Options: all} }

// paths: a message with options of OptPath of these values.
func paths(values ...string) api.Message {
	m := get()
	for _, v := range values {
		m.Options = append(m.Options, op(api.OptPath, v))
	}
	return m
}

// full: a message with as many options as there may be, of a number.
func full(number int) api.Message {
	m := get()
	for range api.MaxOptions {
		m.Options = append(m.Options, op(number, ""))
	}
	return m
}

// isSame: are two messages the same? (An empty list may be nil or not.)
func isSame(a, b api.Message) bool {
	return fmt.Sprintf("%#v", tidy(a)) == fmt.Sprintf("%#v", tidy(b))
}

func tidy(m api.Message) api.Message {
	m.Options = append([]api.Option{}, m.Options...)
	return m
}

// wrong messages, each with a path, a number and a block, and what Check says of them.
func wrong() map[api.Errno]api.Message {
	all := ops(op(6, "\x01"), op(11, "a"), op(23, "\x01"))
	return map[api.Errno]api.Message{
		api.ErrKind:  {Kind: 4, Code: 1, Options: all},
		api.ErrRange: {Code: 256, Options: all},
		api.ErrMany:  {Code: 1, Token: x(9), Options: all},
		api.ErrState: {Code: 1, Options: append(append([]api.Option{}, all...), op(1, ""))},
		api.ErrForm:  {Options: all},
	}
}

func TestWrongMessagesAreTold(t *testing.T) {
	for want, m := range wrong() {
		if e := message.Check(m); e != want {
			t.Fatalf("Check(%v) is %d, is meant to be %d", m, e, want)
		}
		if s, e := option.Path(m); s != "" || e != want {
			t.Errorf("F1: Path(%v) is %q %d, must be %d", m, s, e, want)
		}
		if n, e := option.Uint(m, 6); n != 0 || e != want {
			t.Errorf("F2: Uint(%v) is %d %d, must be %d", m, n, e, want)
		}
		if n, e := option.Uint(m, 7); n != 0 || e != want {
			t.Errorf("F2: Uint(%v) of none is %d %d, must be %d", m, n, e, want)
		}
		if b, e := option.Block(m); b != (api.Block{}) || e != want {
			t.Errorf("F3: Block(%v) is %v %d, must be %d", m, b, e, want)
		}
		for _, name := range []string{"a/b", "", "#", x(61)} {
			if y, e := option.WithPath(m, name); !isSame(y, api.Message{}) || e != want {
				t.Errorf("F1: WithPath(%v, %q) is %v %d, must be %d", m, name, y, e, want)
			}
		}
		for _, n := range []int{0, 1, -1, api.MaxSeq + 1} {
			if y, e := option.WithUint(m, 6, n); !isSame(y, api.Message{}) || e != want {
				t.Errorf("F2: WithUint(%v, 6, %d) is %v %d, must be %d", m, n, y, e, want)
			}
		}
		for _, b := range []api.Block{{}, {Size: 7}, {Number: -1}} {
			if y, e := option.WithBlock(m, b); !isSame(y, api.Message{}) || e != want {
				t.Errorf("F3: WithBlock(%v, %v) is %v %d, must be %d", m, b, y, e, want)
			}
		}
	}
}

func TestF1Path(t *testing.T) {
	for _, c := range []struct {
		m    api.Message
		want string
		err  api.Errno
	}{
		{paths("a"), "a", api.OK},
		{paths("a", "b"), "a/b", api.OK},
		{paths("b", "a", "b"), "b/a/b", api.OK}, // in order, and the same twice
		{paths("", ""), "/", api.OK},
		{paths("", "a", ""), "/a/", api.OK},
		{paths("a", "b", "c", "d", "e", "f"), "a/b/c/d/e/f", api.OK},
		{paths(x(60)), x(60), api.OK},
		{paths(x(29), x(30)), x(29) + "/" + x(30), api.OK},
		{paths("!", "~"), "!/~", api.OK},
		{get(op(1, "no"), op(10, "no"), op(11, "a"), op(11, "b"), op(12, "no"), op(60000, "no")), "a/b", api.OK},
		{api.Message{Kind: 3, Code: 255, Id: 9, Token: "t", Options: ops(op(11, "a")), Payload: "p"}, "a", api.OK},
		{paths(), "", api.ErrNone},
		{get(op(10, "a"), op(12, "b")), "", api.ErrNone},
		{api.Message{}, "", api.ErrNone},
		{paths(""), "", api.ErrForm}, // the empty text is no topic
		{paths("+"), "", api.ErrForm},
		{paths("a", "#"), "", api.ErrForm},
		{paths("a b"), "", api.ErrForm},
		{paths("a", "\xff"), "", api.ErrForm},
		{paths("a", "b", "c", "d", "e", "f", "g"), "", api.ErrMany},
		{paths(x(30), x(30)), "", api.ErrMany},
		{paths(x(60), ""), "", api.ErrMany},
		{paths("+", "b", "c", "d", "e", "f", "g"), "", api.ErrMany}, // as Name says: ErrMany first
		{full(api.OptPath), "", api.ErrMany},
		{paths("a/b"), "", api.ErrForm},
		{paths("/"), "", api.ErrForm},
		{paths("a", "b/"), "", api.ErrForm},
		{paths("/a", "b"), "", api.ErrForm},
		{paths("a/b/c", "d/e/f"), "", api.ErrForm},
		{paths("a/b/c", "d/e/f/g"), "", api.ErrMany}, // what Name says is told ahead of a / in a value
		{paths("a/b/c/d/e/f/g"), "", api.ErrMany},
	} {
		if got, e := option.Path(c.m); got != c.want || e != c.err {
			t.Errorf("Path(%v) is %q %d, must be %q %d", c.m.Options, got, e, c.want, c.err)
		}
	}
}

func TestF1WithPath(t *testing.T) {
	for _, c := range []struct {
		m    api.Message
		name string
		want []api.Option
	}{
		{get(), "a", ops(op(11, "a"))},
		{get(), "a/b", ops(op(11, "a"), op(11, "b"))},
		{get(), "b/a/b", ops(op(11, "b"), op(11, "a"), op(11, "b"))},
		{get(), "/", ops(op(11, ""), op(11, ""))},
		{get(), "a//", ops(op(11, "a"), op(11, ""), op(11, ""))},
		{get(), x(60), ops(op(11, x(60)))},
		{get(), "a/b/c/d/e/f", paths("a", "b", "c", "d", "e", "f").Options},
		{paths("z"), "a/b", ops(op(11, "a"), op(11, "b"))},
		{paths("x", "y", "z"), "a", ops(op(11, "a"))},
		{paths("a/b", "+"), "c", ops(op(11, "c"))}, // what was there need be no topic
		{get(op(10, "p")), "a/b", ops(op(10, "p"), op(11, "a"), op(11, "b"))},
		{get(op(12, "q")), "a/b", ops(op(11, "a"), op(11, "b"), op(12, "q"))},
		{get(op(6, "o"), op(6, "p"), op(11, "x"), op(11, "y"), op(23, "q"), op(23, "r")), "a", ops(op(6, "o"), op(6, "p"), op(11, "a"), op(23, "q"), op(23, "r"))},
		{full(api.OptPath), "a/b", ops(op(11, "a"), op(11, "b"))},
		{get(make([]api.Option, 6)...), "a/b/c/d/e/f", append(make([]api.Option, 6), paths("a", "b", "c", "d", "e", "f").Options...)},
	} {
		want := c.m
		want.Options = c.want
		if got, e := option.WithPath(c.m, c.name); !isSame(got, want) || e != api.OK {
			t.Errorf("WithPath(%v, %q) is %v %d, must be %v", c.m, c.name, got, e, want)
		}
	}
}

func TestF1WithPathErrors(t *testing.T) {
	for _, c := range []struct {
		m    api.Message
		name string
		want api.Errno
	}{
		{get(), "", api.ErrForm},
		{get(), "#", api.ErrForm},
		{get(), "a/+", api.ErrForm},
		{get(), "a b", api.ErrForm},
		{get(), x(61), api.ErrMany},
		{get(), "a/b/c/d/e/f/g", api.ErrMany},
		{api.Message{}, "a", api.ErrForm},   // Check of what comes: an empty one has no options
		{api.Message{}, x(61), api.ErrMany}, // what Name says is told ahead of it
		{full(6), "a", api.ErrMany},
		{full(6), "#", api.ErrForm},
		{full(60), "a", api.ErrMany},
		{get(make([]api.Option, 7)...), "a/b/c/d/e/f", api.ErrMany},
	} {
		if got, e := option.WithPath(c.m, c.name); !isSame(got, api.Message{}) || e != c.want {
			t.Errorf("WithPath(%v, %q) is %v %d, must be %d", c.m, c.name, got, e, c.want)
		}
	}
}

func TestF2Uint(t *testing.T) {
	for _, c := range []struct {
		m      api.Message
		number int
		want   int
		err    api.Errno
	}{
		{get(op(6, "")), 6, 0, api.OK},
		{get(op(6, "\x00")), 6, 0, api.OK},
		{get(op(6, "\x05")), 6, 5, api.OK},
		{get(op(6, "\xff")), 6, 255, api.OK},
		{get(op(6, "\x01\x02")), 6, 0x0102, api.OK},
		{get(op(6, "\x00\x07")), 6, 7, api.OK}, // more bytes than need be
		{get(op(6, "\x00\x00\x07")), 6, 7, api.OK},
		{get(op(6, "\x01\x02\x03")), 6, 0x010203, api.OK},
		{get(op(6, "\xff\xff\xff")), 6, api.MaxSeq, api.OK},
		{get(op(6, "\x01"), op(6, "\x02")), 6, 1, api.OK}, // the first one
		{get(op(6, ""), op(6, "\x02")), 6, 0, api.OK},
		{get(op(6, "\x01"), op(6, "four")), 6, 1, api.OK},
		{get(op(5, "\x04"), op(6, "\x01"), op(7, "\x02")), 6, 1, api.OK},
		{get(op(5, "\x04"), op(6, "\x01"), op(7, "\x02")), 7, 2, api.OK},
		{get(op(0, "\x04")), 0, 4, api.OK},
		{get(op(65535, "\x04")), 65535, 4, api.OK},
		{get(), 6, 0, api.ErrNone},
		{api.Message{}, 6, 0, api.ErrNone},
		{get(op(5, "\x04"), op(7, "four")), 6, 0, api.ErrNone},
		{get(op(0, "\x04")), -1, 0, api.ErrNone},
		{get(op(65535, "\x04")), 65536, 0, api.ErrNone},
		{get(op(6, "\x04")), math.MinInt, 0, api.ErrNone},
		{get(op(6, "\x04")), 1<<32 + 6, 0, api.ErrNone},
		{get(op(6, "\x00\x00\x00\x00")), 6, 0, api.ErrForm},
		{get(op(6, "\x00\x00\x00\x01"), op(6, "\x01")), 6, 0, api.ErrForm},
		{get(op(6, x(5))), 6, 0, api.ErrForm},
		{get(op(6, x(60))), 6, 0, api.ErrForm},
	} {
		if got, e := option.Uint(c.m, c.number); got != c.want || e != c.err {
			t.Errorf("Uint(%v, %d) is %d %d, must be %d %d", c.m.Options, c.number, got, e, c.want, c.err)
		}
	}
}

func TestF2WithUint(t *testing.T) {
	for _, c := range []struct {
		n    int
		want string
	}{
		{0, ""}, {1, "\x01"}, {127, "\x7f"}, {128, "\x80"}, {255, "\xff"}, {256, "\x01\x00"}, {258, "\x01\x02"}, {65280, "\xff\x00"}, {65535, "\xff\xff"},
		{65536, "\x01\x00\x00"}, {0x010203, "\x01\x02\x03"}, {api.MaxSeq, "\xff\xff\xff"},
	} {
		for _, d := range []struct {
			m      api.Message
			number int
			want   []api.Option
		}{
			{get(), 6, ops(op(6, c.want))},
			{get(), 0, ops(op(0, c.want))},
			{get(), 65535, ops(op(65535, c.want))},
			{get(op(6, "old")), 6, ops(op(6, c.want))},
			{get(op(6, "older"), op(6, ""), op(6, "old")), 6, ops(op(6, c.want))}, // just one
			{get(op(5, "a"), op(5, "b"), op(7, "c"), op(7, "d")), 6, ops(op(5, "a"), op(5, "b"), op(6, c.want), op(7, "c"), op(7, "d"))},
			{get(op(5, "a"), op(6, "b"), op(7, "c")), 0, ops(op(0, c.want), op(5, "a"), op(6, "b"), op(7, "c"))},
			{get(op(5, "a"), op(6, "b"), op(7, "c")), 9, ops(op(5, "a"), op(6, "b"), op(7, "c"), op(9, c.want))},
			{full(6), 6, ops(op(6, c.want))},
			{paths("a", "b"), api.OptPath, ops(op(11, c.want))},
		} {
			want := d.m
			want.Options = d.want
			if got, e := option.WithUint(d.m, d.number, c.n); !isSame(got, want) || e != api.OK {
				t.Errorf("WithUint(%v, %d, %d) is %v %d, must be %v", d.m, d.number, c.n, got, e, want)
			}
		}
	}
}

func TestF2WithUintErrors(t *testing.T) {
	for _, c := range []struct {
		m         api.Message
		number, n int
		want      api.Errno
	}{
		{get(), 6, -1, api.ErrRange},
		{get(), 6, api.MaxSeq + 1, api.ErrRange},
		{get(), 6, math.MaxInt, api.ErrRange},
		{get(), 6, math.MinInt, api.ErrRange},
		{get(), -1, 1, api.ErrRange}, // Check of what comes
		{get(), 65536, 1, api.ErrRange},
		{get(op(7, "")), -1, 1, api.ErrRange},
		{get(op(7, "")), 65536, 1, api.ErrRange},
		{get(op(7, "")), math.MinInt, 1, api.ErrRange},
		{get(op(7, "")), math.MaxInt, 1, api.ErrRange},
		{full(7), 6, 1, api.ErrMany},
		{full(7), 8, 1, api.ErrMany},
		{full(7), 6, -1, api.ErrRange}, // told ahead of what comes
		{full(7), 65536, 1, api.ErrMany},
		{full(7), -1, 1, api.ErrMany},
		{api.Message{}, 6, 1, api.ErrForm},
		{api.Message{}, 6, 0, api.ErrForm},
		{api.Message{}, 6, -1, api.ErrRange},
		{api.Message{}, 65536, 1, api.ErrRange},
	} {
		if got, e := option.WithUint(c.m, c.number, c.n); !isSame(got, api.Message{}) || e != c.want {
			t.Errorf("WithUint(%v, %d, %d) is %v %d, must be %d", c.m, c.number, c.n, got, e, c.want)
		}
	}
}

func TestF3Block(t *testing.T) {
	for _, c := range []struct {
		m    api.Message
		want api.Block
		err  api.Errno
	}{
		{get(op(23, "")), api.Block{}, api.OK},
		{get(op(23, "\x06")), api.Block{Size: 6}, api.OK},
		{get(op(23, "\x08")), api.Block{More: true}, api.OK},
		{get(op(23, "\x0e")), api.Block{More: true, Size: 6}, api.OK},
		{get(op(23, "\x10")), api.Block{Number: 1}, api.OK},
		{get(op(23, "\x1a")), api.Block{Number: 1, More: true, Size: 2}, api.OK},
		{get(op(23, "\x01\x00")), api.Block{Number: 16}, api.OK},
		{get(op(23, "\x00\x1a")), api.Block{Number: 1, More: true, Size: 2}, api.OK},
		{get(op(23, "\x12\x34\x56")), api.Block{Number: 0x12345, Size: 6}, api.OK},
		{get(op(23, "\xff\xff\xfe")), api.Block{Number: api.MaxBlock, More: true, Size: 6}, api.OK},
		{get(op(6, "\x01"), op(23, "\x1a"), op(23, "\x07"), op(27, "\x02")), api.Block{Number: 1, More: true, Size: 2}, api.OK},
		{get(), api.Block{}, api.ErrNone},
		{get(op(22, "\x01"), op(24, "\x01"), op(27, "\x01")), api.Block{}, api.ErrNone},
		{get(op(23, "\x00\x00\x00\x00")), api.Block{}, api.ErrForm},
		{get(op(23, "\x00\x00\x00\x07")), api.Block{}, api.ErrForm}, // named ahead of Size
		{get(op(23, "\x07")), api.Block{}, api.ErrRange},
		{get(op(23, "\x0f")), api.Block{}, api.ErrRange},
		{get(op(23, "\x17")), api.Block{}, api.ErrRange},
		{get(op(23, "\xff\xff\xff")), api.Block{}, api.ErrRange},
		{get(op(23, "\x07"), op(23, "\x01")), api.Block{}, api.ErrRange},
	} {
		if got, e := option.Block(c.m); got != c.want || e != c.err {
			t.Errorf("Block(%v) is %v %d, must be %v %d", c.m.Options, got, e, c.want, c.err)
		}
	}
}

func TestF3WithBlock(t *testing.T) {
	for _, c := range []struct {
		b    api.Block
		want string
	}{
		{api.Block{}, ""},
		{api.Block{Size: 6}, "\x06"},
		{api.Block{More: true}, "\x08"},
		{api.Block{Number: 1, More: true, Size: 2}, "\x1a"},
		{api.Block{Number: 15, More: true, Size: 6}, "\xfe"},
		{api.Block{Number: 16}, "\x01\x00"},
		{api.Block{Number: 4095, Size: 1}, "\xff\xf1"},
		{api.Block{Number: 4096}, "\x01\x00\x00"},
		{api.Block{Number: api.MaxBlock, More: true, Size: 6}, "\xff\xff\xfe"},
		{api.Block{Number: api.MaxBlock}, "\xff\xff\xf0"},
	} {
		for _, m := range []api.Message{get(op(11, "a"), op(60, "z")), get(op(11, "a"), op(23, "old!"), op(23, "\x07"), op(60, "z"))} {
			want := get(op(11, "a"), op(23, c.want), op(60, "z"))
			if got, e := option.WithBlock(m, c.b); !isSame(got, want) || e != api.OK {
				t.Errorf("WithBlock(%v, %v) is %v %d, must be %v", m, c.b, got, e, want)
			}
		}
	}
}

func TestF3WithBlockErrors(t *testing.T) {
	for _, b := range []api.Block{
		{Size: 7}, {Size: 8}, {Size: 16}, {Size: -1}, {Size: math.MaxInt}, {Size: math.MinInt},
		{Number: 1, Size: -1}, {Number: 1, Size: -16}, {Number: 1, More: true, Size: -8}, // what tells them would tell another one
		{Number: -1}, {Number: -1, Size: 16}, {Number: -1, More: true, Size: 8}, {Number: api.MaxBlock + 1}, {Number: api.MaxBlock + 1, Size: -16},
		{Number: math.MaxInt}, {Number: math.MinInt}, {Number: 1 << 60}, {Number: 1<<60 + 1}, // 16 times these wrap round to what may be
	} {
		// Named ahead of what is wrong with what comes: too many options, or options of an empty one.
		for _, m := range []api.Message{get(), get(op(23, "\x01")), full(7), {}} {
			if got, e := option.WithBlock(m, b); !isSame(got, api.Message{}) || e != api.ErrRange {
				t.Errorf("WithBlock(%v, %v) is %v %d", m, b, got, e)
			}
		}
	}
	for want, m := range map[api.Errno]api.Message{api.ErrMany: full(7), api.ErrForm: {}} {
		if got, e := option.WithBlock(m, api.Block{Number: 1}); !isSame(got, api.Message{}) || e != want {
			t.Errorf("WithBlock(%v) is %v %d, must be %d", m, got, e, want)
		}
	}
}

// hosts: messages that something is put into.
func hosts() []api.Message {
	return []api.Message{
		get(),
		{Kind: api.Rst, Code: 255, Id: 65535, Token: "12345678", Payload: x(200)},
		get(op(0, "a"), op(65535, "z")),
		get(op(6, "seven"), op(11, "/"), op(11, ""), op(23, "seven"), op(23, "")),
	}
}

// others: what is there of a message but for options of a number.
func others(m api.Message, number int) api.Message {
	var left []api.Option
	for _, o := range m.Options {
		if o.Number != number {
			left = append(left, o)
		}
	}
	m.Options = left
	return m
}

func TestF4WhatIsPutInIsRead(t *testing.T) {
	for _, m := range hosts() {
		for _, name := range []string{"a", "/", "//", "a/", "/a", "a/b/c/d/e/f", "/////", x(60), "!/~", x(20) + "/" + x(39)} {
			y, e := option.WithPath(m, name)
			got, f := option.Path(y)
			if e != api.OK || f != api.OK || got != name || !isSame(others(y, 11), others(m, 11)) {
				t.Errorf("WithPath(%v, %q) is %v %d, and its path %q %d", m, name, y, e, got, f)
			}
		}
		for _, number := range []int{0, 1, 6, 11, 23, 269, 65535} {
			for n := 0; n <= api.MaxSeq; n += 1 + n/5 {
				y, e := option.WithUint(m, number, n)
				got, f := option.Uint(y, number)
				if e != api.OK || f != api.OK || got != n || !isSame(others(y, number), others(m, number)) {
					t.Errorf("WithUint(%v, %d, %d) is %v %d, and its number %d %d", m, number, n, y, e, got, f)
				}
			}
		}
		for n := 0; n <= api.MaxBlock; n += 1 + n/5 {
			for size := 0; size <= api.MaxSize; size++ {
				b := api.Block{Number: n, More: n%2 == size%2, Size: size}
				y, e := option.WithBlock(m, b)
				got, f := option.Block(y)
				if e != api.OK || f != api.OK || got != b || !isSame(others(y, 23), others(m, 23)) {
					t.Errorf("WithBlock(%v, %v) is %v %d, and its block %v %d", m, b, y, e, got, f)
				}
			}
		}
	}
}

// What comes can be encoded, and is the same behind its bytes.
func TestF4WhatIsPutInGoesThroughBytes(t *testing.T) {
	y, _ := option.WithPath(get(), "a//b")
	y, _ = option.WithUint(y, api.OptObserve, 300)
	y, _ = option.WithBlock(y, api.Block{Number: 70, More: true, Size: 3})
	s, e := message.Encode(y)
	if want := "@\x01\x00\x00\x62\x01\x2c\x51a\x00\x01b\xc2\x04\x6b"; s != want || e != api.OK {
		t.Fatalf("the bytes are %q %d, must be %q", s, e, want)
	}
	m, _ := message.Decode(s)
	name, _ := option.Path(m)
	n, _ := option.Uint(m, api.OptObserve)
	b, _ := option.Block(m)
	if name != "a//b" || n != 300 || b != (api.Block{Number: 70, More: true, Size: 3}) {
		t.Errorf("read are %q, %d, %v", name, n, b)
	}
}

// Each path that is read is a topic, and put in again it is the same one.
func TestF4WhatIsReadIsPutInAgain(t *testing.T) {
	parts := []string{"", "a", "/", "+", "bc", " ", x(30)}
	read := 0
	for i := 0; i < 7*7*7; i++ {
		m := paths(parts[i%7], parts[i/7%7], parts[i/49])
		name, e := option.Path(m)
		if e != api.OK {
			continue
		}
		read++
		y, f := option.WithPath(m, name)
		if topic.Name(name) != api.OK || f != api.OK || !isSame(y, m) {
			t.Errorf("the path of %v is %q; with it it is %v %d", m, name, y, f)
		}
	}
	// Each of "", "a", "bc" in all places, or at one of them x(30).
	if want := 3*3*3 + 3*3*3; read != want {
		t.Errorf("%d were read, must be %d", read, want)
	}
}

var hostile = []int{math.MinInt, math.MinInt + 1, math.MinInt32, -65536, -1, 0, 1, 6, 7, 8, 11, 23, 65535, 65536, 1048575, 1048576, 16777215, 16777216, math.MaxInt32, 1 << 60, math.MaxInt - 1, math.MaxInt}

func TestP1NothingPanicsAndErrorsAnswerNothingElse(t *testing.T) {
	defer func() {
		if r := recover(); r != nil {
			t.Fatalf("panic: %v", r)
		}
	}()
	none := func(m api.Message, e api.Errno) {
		if e != api.OK && !isSame(m, api.Message{}) || e == api.OK && message.Check(m) != api.OK {
			t.Errorf("it is %v %d", m, e)
		}
	}
	all := append(hosts(), api.Message{}, full(6), full(11), full(23), get(op(-1, "")), get(op(1<<60, x(99))), get(make([]api.Option, 99)...))
	for _, m := range wrong() {
		all = append(all, m)
	}
	for _, m := range all {
		if s, e := option.Path(m); e != api.OK && s != "" {
			t.Errorf("Path(%v) is %q %d", m, s, e)
		}
		if b, e := option.Block(m); e != api.OK && b != (api.Block{}) {
			t.Errorf("Block(%v) is %v %d", m, b, e)
		}
		for _, name := range []string{"", "/", "\x00", "a/#", strings.Repeat("/", 99), x(1000)} {
			none(option.WithPath(m, name))
		}
		for _, a := range hostile {
			if n, e := option.Uint(m, a); e != api.OK && n != 0 {
				t.Errorf("Uint(%v, %d) is %d %d", m, a, n, e)
			}
			for _, b := range hostile {
				none(option.WithUint(m, a, b))
				none(option.WithBlock(m, api.Block{Number: a, Size: b}))
				none(option.WithBlock(m, api.Block{Number: a, Size: b, More: true}))
			}
		}
	}
}

func TestP2WhatIsHandedInIsOnlyRead(t *testing.T) {
	list := func() []api.Option {
		return ops(op(6, "\x01"), op(11, "a"), op(11, "b"), op(23, "\x02"), op(99, "spare"), op(98, "room"), op(97, "behind"))
	}
	for n := range list() {
		room := list()
		m := get(room[:n]...)
		option.Path(m)
		option.Uint(m, 6)
		option.Block(m)
		option.WithPath(m, "c/d/e")
		option.WithUint(m, 6, 77)
		option.WithUint(m, 0, 77)
		option.WithUint(m, 999, 77)
		option.WithBlock(m, api.Block{Number: 7})
		if !reflect.DeepEqual(room, list()) {
			t.Errorf("options are %v now", room)
		}
	}
}

// What is changed behind a call is not seen in its answer, nor the other way.
func TestP2ListsAreNotShared(t *testing.T) {
	for _, put := range []func(api.Message) (api.Message, api.Errno){
		func(m api.Message) (api.Message, api.Errno) { return option.WithPath(m, "a") },
		func(m api.Message) (api.Message, api.Errno) { return option.WithUint(m, 0, 0) },
		func(m api.Message) (api.Message, api.Errno) { return option.WithUint(m, 65535, 1) },
		func(m api.Message) (api.Message, api.Errno) { return option.WithBlock(m, api.Block{}) },
	} {
		room := make([]api.Option, 0, 20)
		room = append(room, op(0, ""), op(11, "a"), op(23, ""), op(65535, "\x01"))
		m := get(room...)
		got, e := put(m)
		was := fmt.Sprint(got)
		for i := range m.Options {
			m.Options[i] = op(77, "changed")
		}
		if e != api.OK || fmt.Sprint(got) != was {
			t.Errorf("it was %v and is %v %d", was, got, e)
		}
		again, _ := put(got)
		was = fmt.Sprint(again)
		for i := range got.Options {
			got.Options[i] = op(78, "changed")
		}
		if fmt.Sprint(again) != was {
			t.Errorf("it was %v and is %v", was, again)
		}
	}
}

// within: does a text lie in the memory of another one?
func within(part, all string) bool {
	if part == "" || all == "" {
		return false
	}
	at := uintptr(unsafe.Pointer(unsafe.StringData(part)))
	from := uintptr(unsafe.Pointer(unsafe.StringData(all)))
	return at >= from && at < from+uintptr(len(all))
}

func texts(m api.Message) []string {
	out := []string{m.Token, m.Payload}
	for _, o := range m.Options {
		out = append(out, o.Value)
	}
	return out
}

func TestP2AnswersAreNewMemory(t *testing.T) {
	name := strings.Repeat("ab/", 3) + "c"
	m := api.Message{Code: 1, Token: x(3), Options: ops(op(5, x(4)), op(11, x(5)), op(60, x(6))), Payload: x(7)}
	handed := append(texts(m), name)
	a, _ := option.WithPath(m, name)
	b, _ := option.WithUint(m, 7, 7)
	c, _ := option.WithBlock(m, api.Block{Number: 7})
	path, _ := option.Path(m)
	all := append(append(texts(a), texts(b)...), append(texts(c), path)...)
	for _, got := range all {
		for _, in := range handed {
			if within(got, in) {
				t.Errorf("%q is a piece of what was handed in, %q", got, in)
			}
		}
	}
}

func TestP2NilAndEmptyListsAreOne(t *testing.T) {
	m := get()
	m.Options = make([]api.Option, 0, 5)
	a, e := option.WithPath(m, "a")
	b, f := option.WithPath(get(), "a")
	if !isSame(a, b) || e != api.OK || f != api.OK {
		t.Errorf("WithPath is %v %d and %v %d", a, e, b, f)
	}
	if _, e := option.Path(m); e != api.ErrNone {
		t.Errorf("Path is %d", e)
	}
	if _, e := option.Uint(m, 0); e != api.ErrNone {
		t.Errorf("Uint is %d", e)
	}
}

func TestP3OneAnswerForOneQuestion(t *testing.T) {
	ask := func() string {
		m := get(op(6, "\x01\x02"), op(11, "a"), op(11, "b"), op(23, "\x1a"))
		path, e1 := option.Path(m)
		n, e2 := option.Uint(m, 6)
		b, e3 := option.Block(m)
		x, e4 := option.WithPath(m, "c")
		y, e5 := option.WithUint(m, 6, 9)
		z, e6 := option.WithBlock(m, api.Block{Number: 9})
		return fmt.Sprint(path, n, b, x, y, z, e1, e2, e3, e4, e5, e6)
	}
	first := ask()
	for i := range 100 {
		option.WithPath(full(i), x(i))
		option.WithUint(get(op(6, "")), 6, i*i*i)
		option.WithBlock(paths("a", "b"), api.Block{Number: i, Size: i % 9})
		option.Path(paths(x(i)))
		option.Uint(get(op(6, x(i%5))), 6)
		if again := ask(); again != first {
			t.Fatalf("it was %s and is %s", first, again)
		}
	}
}

func TestP4GreatThings(t *testing.T) {
	great := strings.Repeat("/", 8<<20)
	if m, e := option.WithPath(get(), great); !isSame(m, api.Message{}) || e != api.ErrMany {
		t.Errorf("WithPath of a great topic is %d", e)
	}
	for _, m := range []api.Message{get(make([]api.Option, 1<<20)...), get(op(11, great)), {Code: 1, Payload: great}, {Code: 1, Token: great}} {
		if s, e := option.Path(m); s != "" || e != api.ErrMany {
			t.Errorf("Path of a great message is %d", e)
		}
		if y, e := option.WithUint(m, 11, 1); !isSame(y, api.Message{}) || e != api.ErrMany {
			t.Errorf("WithUint of a great message is %d", e)
		}
	}
}
