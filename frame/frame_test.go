package frame_test

import (
	"fmt"
	"math/rand"
	"strings"
	"testing"
	"unsafe"

	"dragoman/api"
	"dragoman/frame"
	"dragoman/packet"
)

const (
	ping    = "\xc0\x00"
	pong    = "\xd0\x00"
	bye     = "\xe0\x00"
	connect = "\x10\x0f\x00\x04MQTT\x04\x02\x00\x3c\x00\x03ann"
	publish = "\x32\x09\x00\x03a/b\x00\x0121"
	ask     = "\x82\x0a\x00\x02\x00\x01a\x01\x00\x01b\x00"
	answer  = "\x90\x04\x00\x02\x01\x80"
)

// great: a Publish whose Long has two bytes.
func great() string { return "\x30\xcb\x01\x00\x01a" + zeros(200) }

func zeros(n int) string { return strings.Repeat("\x00", n) }

// head of a packet that has so many bytes in all, with a Long of two bytes.
func head(first byte, all int) string {
	n := all - 3
	return string([]byte{first, byte(n%128 + 128), byte(n / 128)})
}

// decoded: the packets of texts that are one each.
func decoded(t *testing.T, texts ...string) []api.Packet {
	t.Helper()
	out := []api.Packet{}
	for _, s := range texts {
		p, e := packet.Decode(s)
		if e != api.OK {
			t.Fatalf("Decode(%q) is %d", s, e)
		}
		out = append(out, p)
	}
	return out
}

// show packets (an empty list is shown as one that is nil).
func show(all []api.Packet) string { return fmt.Sprintf("%q", fmt.Sprint(all)) }

type fed struct {
	rest, s string
	whole   []string
	left    string
	e       api.Errno
}

func (c fed) try(t *testing.T) {
	t.Helper()
	all, left, e := frame.Feed(c.rest, c.s)
	if show(all) != show(decoded(t, c.whole...)) || left != c.left || e != c.e {
		t.Errorf("Feed(%.40q, %.40q) is %v %.40q %d, must be %.40q %.40q %d", c.rest, c.s, all, left, e, c.whole, c.left, c.e)
	}
}

func TestD1WholePacketsAndWhatIsLeft(t *testing.T) {
	for _, c := range []fed{
		{"", "", nil, "", api.OK},
		{"", ping, []string{ping}, "", api.OK},
		{ping, "", []string{ping}, "", api.OK},
		{"\xc0", "\x00", []string{ping}, "", api.OK},
		{"", "\xc0", nil, "\xc0", api.OK},
		{"\xc0", "", nil, "\xc0", api.OK},
		{"", ping + pong + bye, []string{ping, pong, bye}, "", api.OK},
		{ping, pong + bye, []string{ping, pong, bye}, "", api.OK},
		{ping + pong, bye + ping, []string{ping, pong, bye, ping}, "", api.OK},
		{"", connect + ask + publish + "\xe0", []string{connect, ask, publish}, "\xe0", api.OK},
		{connect[:5], connect[5:] + publish[:10], []string{connect}, publish[:10], api.OK},
		{connect[:5], connect[5:9], nil, connect[:9], api.OK},
		{"", great()[:2], nil, great()[:2], api.OK},
		{"", great()[:3], nil, great()[:3], api.OK},
		{"", great()[:205], nil, great()[:205], api.OK},
		{great()[:2], great()[2:] + answer, []string{great(), answer}, "", api.OK},
		{great() + great() + great(), great() + "\x30", []string{great(), great(), great(), great()}, "\x30", api.OK},

		// A Long of which a byte is not there yet.
		{"", "\xc0\x80", nil, "\xc0\x80", api.OK},
		{"\xc0", "\xff\xff", nil, "\xc0\xff\xff", api.OK},
		{ping + "\xc0\xff", "\xff\xff", []string{ping}, "\xc0\xff\xff\xff", api.OK},

		// Whether there is such a kind is asked of a whole one alone.
		{"", "\xff", nil, "\xff", api.OK},
		{"", "\x00\x05abcd", nil, "\x00\x05abcd", api.OK},
	} {
		c.try(t)
	}
}

func TestD1Errors(t *testing.T) {
	for _, c := range []fed{
		// The Long has ErrForm.
		{"", "\xc0\x80\x00", nil, "", api.ErrForm},
		{"\xc0\x80", "\x00" + ping, nil, "", api.ErrForm},
		{"", "\xc0\xff\xff\xff\xff", nil, "", api.ErrForm},
		{"\xc0\xff\xff\xff", "\x80", nil, "", api.ErrForm},
		{"", "\xc0\xff\xff\xff\x00", nil, "", api.ErrForm},
		{"", "\x30\x85\x00\x00\x03a/b", nil, "", api.ErrForm},

		// More than MaxStream bytes, as soon as the Long is there.
		{"", head(0x30, 600), nil, head(0x30, 600), api.OK},
		{"", head(0x30, 600) + zeros(596), nil, head(0x30, 600) + zeros(596), api.OK},
		{head(0x30, 600) + zeros(596), "\x00", nil, "", api.ErrForm},
		{head(0x30, 600), "\x00\x01a" + zeros(594), nil, "", api.ErrMany},
		{"", head(0x30, 601), nil, "", api.ErrMany},
		{head(0x30, 601)[:2], head(0x30, 601)[2:], nil, "", api.ErrMany},
		{"", head(0xff, 601), nil, "", api.ErrMany},
		{"", head(0xc0, 601) + zeros(598) + ping, nil, "", api.ErrMany},
		{"", "\xc0\xff\xff\xff\x7f", nil, "", api.ErrMany},
		{"", "\xc0\xff\xff\x7f", nil, "", api.ErrMany},
		{"\xc0\x80\x80\x80", "\x01", nil, "", api.ErrMany},

		// What Decode says of a whole one.
		{"", "\xf0\x00", nil, "", api.ErrForm},
		{"", "\xc1\x00", nil, "", api.ErrForm},
		{"\x00\x05abcd", "e", nil, "", api.ErrForm},
		{"\x40\x02\x00", "\x00", nil, "", api.ErrRange},
		{"", "\x20\x02\x01\x01", nil, "", api.ErrState},
		{"", "\x30\x40\x00\x3d" + strings.Repeat("x", 62), nil, "", api.ErrMany},
		{"", head(0x82, 600) + "\x00\x01" + zeros(595), nil, "", api.ErrForm},
		{"", head(0x82, 599) + "\x00\x01" + zeros(594), nil, "", api.ErrMany},

		// What is ahead is answered, and nothing is left.
		{"", ping + "\xf0\x00" + pong, []string{ping}, "", api.ErrForm},
		{ping, connect + "\xc0\x80\x00" + pong + "\x10", []string{ping, connect}, "", api.ErrForm},
		{connect[:3], connect[3:] + ask + head(0x30, 601), []string{connect, ask}, "", api.ErrMany},
		{"", bye + "\x40\x02\x00\x00" + bye, []string{bye}, "", api.ErrRange},

		// The first packet that has one tells.
		{"", "\x40\x02\x00\x00" + "\xf0\x00", nil, "", api.ErrRange},
		{"", "\xf0\x00" + "\x40\x02\x00\x00", nil, "", api.ErrForm},
		{"", ping + head(0x30, 601) + "\xf0\x00", []string{ping}, "", api.ErrMany},
	} {
		c.try(t)
	}
}

// fedBy: what comes of a stream in pieces, each as long as the next one of lengths.
func fedBy(s string, length func() int) ([]api.Packet, string, api.Errno) {
	var all []api.Packet
	rest := ""
	for s != "" {
		n := min(len(s), length())
		l, left, e := frame.Feed(rest, s[:n])
		all = append(all, l...)
		rest, s = left, s[n:]
		if e != api.OK {
			return all, rest, e
		}
	}
	return all, rest, api.OK
}

func TestD2InWhateverPieces(t *testing.T) {
	draw := rand.New(rand.NewSource(1))
	good := []string{ping, pong, bye, connect, publish, ask, answer, great()}
	tails := []string{"", "\x10", "\x30\xcb\x01\x00", "\xf0\x00", "\xc0\x80\x00", "\xc0\xff\xff\xff\xff", head(0x30, 601), head(0x30, 600), "\x40\x02\x00\x00", head(0xc0, 600) + zeros(597) + ping, "\x20\x02\x01\x01" + great()}
	for round := range 300 {
		var texts []string
		for range draw.Intn(9) {
			texts = append(texts, good[draw.Intn(len(good))])
		}
		s := strings.Join(texts, "") + tails[round%len(tails)]
		all, left, e := frame.Feed("", s)
		if show(all) != show(decoded(t, texts...)) {
			t.Errorf("Feed of %q is %v, must be %q", s, all, texts)
		}
		for _, length := range []func() int{
			func() int { return 1 },
			func() int { return 2 },
			func() int { return 7 },
			func() int { return 1 + draw.Intn(40) },
		} {
			b, bLeft, f := fedBy(s, length)
			if show(b) != show(all) || bLeft != left || f != e {
				t.Errorf("in pieces %q is %v %q %d, must be %v %q %d", s, b, bLeft, f, all, left, e)
			}
		}
		for at := range s {
			if at > 60 {
				break
			}
			b, bLeft, f := frame.Feed(s[:at], s[at:])
			if show(b) != show(all) || bLeft != left || f != e {
				t.Errorf("cut at %d %q is %v %q %d, must be %v %q %d", at, s, b, bLeft, f, all, left, e)
			}
		}
	}
}

func TestP1NothingPanics(t *testing.T) {
	defer func() {
		if r := recover(); r != nil {
			t.Fatalf("panic: %v", r)
		}
	}()
	draw := rand.New(rand.NewSource(2))
	for range 20000 {
		b := make([]byte, draw.Intn(12))
		for i := range b {
			b[i] = byte(draw.Intn(256))
			if draw.Intn(2) == 0 {
				b[i] = "\x00\x01\x02\x7f\x80\xc0\xd0\x10"[draw.Intn(8)]
			}
		}
		at := draw.Intn(len(b) + 1)
		_, left, e := frame.Feed(string(b[:at]), string(b[at:]))
		if e != api.OK && left != "" {
			t.Errorf("Feed(%q, %q) is %q %d", b[:at], b[at:], left, e)
		}
		if !strings.HasSuffix(string(b), left) {
			t.Errorf("Feed(%q, %q) leaves %q", b[:at], b[at:], left)
		}
	}
}

// within: does a text lie in the memory of another one?
func within(part, all string) bool {
	if part == "" || all == "" {
		return false
	}
	at := uintptr(unsafe.Pointer(unsafe.StringData(part)))
	from := uintptr(unsafe.Pointer(unsafe.StringData(all)))
	return at >= from && at < from+uintptr(len(all))
}

func TestP2AnswersAreNewMemory(t *testing.T) {
	s := ask + ask + answer + publish + "\x10\x0f\x00"
	for _, c := range [][2]string{{s, ""}, {"", s}, {s[:20], s[20:]}} {
		all, left, e := frame.Feed(c[0], c[1])
		if len(all) != 4 || left != "\x10\x0f\x00" || e != api.OK {
			t.Fatalf("Feed is %v %q %d", all, left, e)
		}
		if within(left, s) || within(all[3].Topic, s) || within(all[3].Payload, s) || within(all[0].Asks[0].Filter, s) {
			t.Errorf("an answer is a piece of what was handed in")
		}
		before := show(all[1:])
		all[0].Asks[0].Filter = "changed"
		all[0].Asks = append(all[0].Asks, api.Ask{Filter: "more"})
		if show(all[1:]) != before {
			t.Errorf("two packets share a list")
		}
	}
}

func TestP3OneAnswerForOneQuestion(t *testing.T) {
	for range 3 {
		frame.Feed("\x10", "\x0f")
		fed{"", connect + publish[:4], []string{connect}, publish[:4], api.OK}.try(t)
		fed{"", connect + "\xf0\x00", []string{connect}, "", api.ErrForm}.try(t)
	}
}

func TestP4AGreatStream(t *testing.T) {
	const many = 300000
	half := strings.Repeat(publish, many)
	all, left, e := frame.Feed(half+publish[:3], publish[3:]+half+publish[:3])
	if len(all) != 2*many+1 || left != publish[:3] || e != api.OK {
		t.Errorf("%d packets, %q is left, %d", len(all), left, e)
	}
}
