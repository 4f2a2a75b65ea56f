package world_test

// What the whole promises, a test for each sentence: here of the chapters 1 to 7, each layer by its calls.

import (
	"fmt"
	"slices"
	"strings"
	"testing"

	"dragoman/api"
	"dragoman/block"
	"dragoman/frame"
	"dragoman/message"
	"dragoman/option"
	"dragoman/packet"
	"dragoman/topic"
	"dragoman/wire"
)

// text of so many bytes at most, by chance.
func (d *draw) text(most int) string {
	b := make([]byte, d.n(most+1))
	for i := range b {
		b[i] = byte(d.n(256))
	}
	return string(b)
}

// number of at most so many bits: small ones come as often as great ones.
func (d *draw) number(bits int) int { return d.n(1 << (1 + d.n(bits))) }

// Told one behind the other, they are read one behind the other, to the end.
func TestWholeWhatIsToldIsReadAndSoManyBytesAreUsed(t *testing.T) {
	d := draw(1)
	for range 300 {
		var s strings.Builder
		var reads []func(s string, at int) int
		for range 20 {
			n, many, text := d.number(28), 1+d.n(4), d.text(300)
			n %= 1 << min(28, 8*many)
			number, e := wire.Number(n, many)
			long, f := wire.Long(n)
			told, g := wire.Text(text)
			if e != api.OK || f != api.OK || g != api.OK {
				t.Fatalf("%d by %d: %d; %d; %q: %d", n, many, e, f, text, g)
			}
			s.WriteString(number + long + told)
			reads = append(reads, func(s string, at int) int {
				a, e := wire.Get(s, at, many)
				b, used, f := wire.GetLong(s, at+many)
				c, more, g := wire.GetText(s, at+many+used)
				if a != n || b != n || c != text || e != api.OK || f != api.OK || g != api.OK || used != len(long) || more != len(text)+2 {
					t.Fatalf("of %d by %d, and %q there are %d, %d by %d, %q by %d", n, many, text, a, b, used, c, more)
				}
				return at + many + used + more
			})
		}
		at := 0
		for _, read := range reads {
			at = read(s.String(), at)
		}
		if at != s.Len() {
			t.Fatalf("there are %d bytes, and %d are used", s.Len(), at)
		}
	}
}

// spread: all texts of so many levels at most, of these.
func spread(most int, levels ...string) []string {
	all := slices.Clone(levels)
	for from := 0; most > 1; most-- {
		to := len(all)
		for _, s := range all[from:to] {
			for _, l := range levels {
				all = append(all, s+"/"+l)
			}
		}
		from = to
	}
	return all
}

// right: those of which a rule has no error.
func right(rule func(string) api.Errno, all []string) []string {
	return slices.DeleteFunc(all, func(s string) bool { return rule(s) != api.OK })
}

func TestWholeWhatCoversIsForAllThatIsCovered(t *testing.T) {
	filters, names := right(topic.Filter, spread(3, "", "a", "+", "#")), right(topic.Name, spread(4, "", "a", "z"))
	matches := map[string][]bool{}
	for _, f := range filters {
		for _, n := range names {
			is, e := topic.Match(f, n)
			if e != api.OK || is != fits(strings.Split(f, "/"), strings.Split(n, "/")) {
				t.Errorf("Match(%q, %q) is %v %d", f, n, is, e)
			}
			matches[f] = append(matches[f], is)
		}
	}
	covered := map[string][]string{}
	for _, a := range filters {
		for _, b := range filters {
			is, e := topic.Covers(a, b)
			other := slices.IndexFunc(names, func(n string) bool {
				i := slices.Index(names, n)
				return matches[b][i] && !matches[a][i]
			})
			if e != api.OK || is != (other < 0) || a == b && !is {
				t.Errorf("Covers(%q, %q) is %v %d; another one is at %d", a, b, is, e, other)
			}
			if is {
				covered[a] = append(covered[a], b)
			}
		}
	}
	for a, all := range covered {
		for _, b := range all {
			for _, c := range covered[b] {
				if !slices.Contains(all, c) {
					t.Errorf("%q covers %q, that covers %q", a, b, c)
				}
			}
		}
	}
}

// fits: is a filter of these levels for a topic of those?
func fits(filter, name []string) bool {
	if len(filter) == 0 || filter[0] == "#" {
		return len(filter) > 0 || len(name) == 0
	}
	return len(name) > 0 && (filter[0] == "+" || filter[0] == name[0]) && fits(filter[1:], name[1:])
}

// anyPacket that is right, those that a broker sends too.
func (d *draw) anyPacket() api.Packet {
	switch id := 1 + d.n(api.MaxId); d.n(8) {
	case 0:
		return api.Packet{Kind: api.Connack, Session: true}
	case 1:
		return api.Packet{Kind: api.Connack, Code: d.n(6)}
	case 2:
		return suback(id, d.n(2), api.Failed, d.n(2))
	case 3:
		return again(publish(d.name(), d.text(200), 1, id))
	case 4:
		return api.Packet{Kind: api.Unsuback, Id: id}
	case 5:
		return publish(x(1+d.n(60)), d.text(200), 0, 0)
	}
	return d.packet(d.client())
}

// anyMessage that is right.
func (d *draw) anyMessage() api.Message {
	if d.n(3) == 0 {
		return d.message()
	}
	m := api.Message{Kind: d.n(4), Code: 1 + d.n(255), Id: d.n(65536), Token: d.text(api.MaxToken), Payload: d.text(api.MaxPayload)}
	for range d.n(api.MaxOptions + 1) {
		m.Options = append(m.Options, api.Option{Number: d.number(16), Value: d.text(api.MaxOption)})
	}
	slices.SortStableFunc(m.Options, func(a, b api.Option) int { return a.Number - b.Number })
	return m
}

// bent: some bytes other than they were, or more, or fewer.
func (d *draw) bent(s string) string {
	b := []byte(s)
	for range 1 + d.n(3) {
		at := d.n(len(b) + 1)
		switch d.n(4) {
		case 0:
			b = slices.Insert(b, at, byte(d.n(256)))
		case 1:
			b = b[:at]
		default:
			if at < len(b) {
				b[at] = byte(d.n(256))
			}
		}
	}
	return string(b)
}

func TestWholeWhatIsEncodedIsDecodedAsItWasAndNothingElse(t *testing.T) {
	d := draw(3)
	wrong, right := 0, 0
	for range 20000 {
		p, m := d.anyPacket(), d.anyMessage()
		a, e := packet.Encode(p)
		b, f := message.Encode(m)
		pAgain, eAgain := packet.Decode(a)
		mAgain, fAgain := message.Decode(b)
		if fmt.Sprint(p, e) != fmt.Sprint(pAgain, eAgain) || e != api.OK {
			t.Fatalf("%+v %d is %q, and that %+v %d", p, e, a, pAgain, eAgain)
		}
		if fmt.Sprint(m, f) != fmt.Sprint(mAgain, fAgain) || f != api.OK {
			t.Fatalf("%+v %d is %q, and that %+v %d", m, f, b, mAgain, fAgain)
		}
		a, b = d.bent(a), d.bent(b)
		if p, e = packet.Decode(a); e == api.OK {
			if s, e := packet.Encode(p); s != a || e != api.OK {
				t.Fatalf("%q is %+v, and that %q %d", a, p, s, e)
			}
			right++
		}
		if m, f = message.Decode(b); f == api.OK {
			if s, e := message.Encode(m); s != b || e != api.OK {
				t.Fatalf("%q is %+v, and that %q %d", b, m, s, e)
			}
			right++
		}
		wrong += int(min(e, 1) + min(f, 1))
	}
	if wrong < 1000 || right < 1000 {
		t.Errorf("only %d are wrong, %d are right", wrong, right)
	}
}

func TestWholeInWhateverPiecesAStreamComesThePacketsAreTheSame(t *testing.T) {
	d := draw(4)
	for range 300 {
		var s, rest string
		var is, got []api.Packet
		for range d.n(12) {
			p := d.anyPacket()
			s, is = s+stream(p), append(is, p)
		}
		s += d.one("", "\x30", "\x30\xff", "\x10\x0f\x00")
		for at := 0; at < len(s); {
			n := min(len(s)-at, d.n(40))
			all, left, e := frame.Feed(rest, s[at:at+n])
			if e != api.OK {
				t.Fatalf("of %q behind %q there is %d", s[at:at+n], rest, e)
			}
			got, rest, at = append(got, all...), left, at+n
		}
		all, left, e := frame.Feed("", s)
		if fmt.Sprint(got) != fmt.Sprint(is) || fmt.Sprint(all) != fmt.Sprint(is) || left != rest || e != api.OK {
			t.Fatalf("%q is at once %v %q %d, in pieces %v %q, must be %v", s, all, left, e, got, rest, is)
		}
	}
}

func TestWholeWhatIsPutInIsRead(t *testing.T) {
	d := draw(6)
	for range 5000 {
		m := api.Message{Kind: d.n(4), Code: 1 + d.n(255), Payload: d.text(200), Options: []api.Option{{Number: d.n(4), Value: "first"}, {Number: 60, Value: "last"}}}
		name, n, b := d.name(), d.number(23), api.Block{Number: d.number(19), More: d.n(2) == 1, Size: d.n(7)}
		m, e := option.WithPath(m, d.name())
		m, f := option.WithUint(m, api.OptObserve, d.number(23))
		m, g := option.WithBlock(m, b)
		m, h := option.WithUint(m, api.OptObserve, n)
		m, i := option.WithPath(m, name)
		if e+f+g+h+i != api.OK {
			t.Fatalf("%q, %d, %v: %d %d %d %d %d", name, n, b, e, f, g, h, i)
		}
		// It is there for him too who has the bytes alone.
		m, e = message.Decode(bytes(m))
		isName, f := option.Path(m)
		isN, g := option.Uint(m, api.OptObserve)
		isB, h := option.Block(m)
		if isName != name || isN != n || isB != b || e+f+g+h != api.OK {
			t.Fatalf("of %q, %d, %v there is %q %d %v: %d %d %d %d", name, n, b, isName, isN, isB, e, f, g, h)
		}
	}
}

func TestWholeBlocksThatAreCutAreJoinedToWhatTheyWere(t *testing.T) {
	d := draw(7)
	for many := range api.MaxPayload + 1 {
		for size := range api.MaxSize + 1 {
			payload := d.text(200) + x(200)
			payload = payload[:many]
			var pieces []string
			var blocks []api.Block
			for more := true; more; {
				piece, b, e := block.Cut(payload, len(blocks), size)
				if e != api.OK {
					t.Fatalf("Cut(%q, %d, %d) is %d", payload, len(blocks), size, e)
				}
				pieces, blocks, more = append(pieces, piece), append(blocks, b), b.More
			}
			if is, e := block.Join(pieces, blocks); is != payload || e != api.OK || len(blocks) != max(1, (many+(16<<size)-1)/(16<<size)) {
				t.Fatalf("%q by %d is joined of %q to %q %d", payload, size, pieces, is, e)
			}
		}
	}
}
