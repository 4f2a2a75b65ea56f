package block_test

import (
	"fmt"
	"math"
	"reflect"
	"strings"
	"testing"
	"unsafe"

	"dragoman/api"
	"dragoman/block"
)

func x(n int) string { return strings.Repeat("x", n) }

// bytes: so many, of which few that stand close are the same.
func bytes(n int) string {
	var out strings.Builder
	for i := range n {
		out.WriteByte(byte(i*7 + i/50))
	}
	return out.String()
}

func texts(all ...string) []string { return all }

func blocks(all ...api.Block) []api.Block { return all }

// line of so many blocks of a size, as they must be.
func line(many, size int) []api.Block {
	var all []api.Block
	for i := range many {
		all = append(all, api.Block{Number: i, More: i < many-1, Size: size})
	}
	return all
}

func TestG1Cut(t *testing.T) {
	p := bytes(200)
	for _, c := range []struct {
		payload      string
		number, size int
		want         string
		more         bool
	}{
		{"", 0, 0, "", false}, // block 0 of no bytes is there
		{"", 0, 6, "", false},
		{"a", 0, 0, "a", false},
		{"a", 0, 6, "a", false},
		{p[:15], 0, 0, p[:15], false},
		{p[:16], 0, 0, p[:16], false}, // full, and nothing stands behind it
		{p[:17], 0, 0, p[:16], true},
		{p[:17], 1, 0, p[16:17], false},
		{p[:32], 0, 0, p[:16], true},
		{p[:32], 1, 0, p[16:32], false},
		{p[:33], 1, 0, p[16:32], true},
		{p[:33], 2, 0, p[32:33], false},
		{p[:31], 0, 1, p[:31], false},
		{p[:32], 0, 1, p[:32], false},
		{p[:33], 0, 1, p[:32], true},
		{p[:33], 1, 1, p[32:33], false},
		{p[:64], 0, 2, p[:64], false},
		{p[:65], 0, 2, p[:64], true},
		{p[:65], 1, 2, p[64:65], false},
		{p[:128], 0, 3, p[:128], false},
		{p[:129], 0, 3, p[:128], true},
		{p[:129], 1, 3, p[128:129], false},
		{p, 11, 0, p[176:192], true},
		{p, 12, 0, p[192:200], false},
		{p, 6, 1, p[192:200], false},
		{p, 2, 2, p[128:192], true},
		{p, 3, 2, p[192:200], false},
		{p, 1, 3, p[128:200], false},
		{p, 0, 4, p, false},
		{p, 0, 5, p, false},
		{p, 0, 6, p, false},
	} {
		want := api.Block{Number: c.number, More: c.more, Size: c.size}
		if s, b, e := block.Cut(c.payload, c.number, c.size); s != c.want || b != want || e != api.OK {
			t.Errorf("Cut(%q, %d, %d) is %q %v %d, must be %q %v", c.payload, c.number, c.size, s, b, e, c.want, want)
		}
	}
}

func TestG1CutErrors(t *testing.T) {
	for _, c := range []struct {
		payload      string
		number, size int
		want         api.Errno
	}{
		{x(201), 0, 0, api.ErrMany},
		{x(201), 0, 6, api.ErrMany},
		{x(1000), 5, 3, api.ErrMany},
		{x(201), 99, 0, api.ErrMany},
		{x(201), -1, 0, api.ErrMany}, // named ahead of ErrRange
		{x(201), 0, -1, api.ErrMany},
		{x(201), 0, 7, api.ErrMany},
		{"a", 0, -1, api.ErrRange},
		{"a", 0, 7, api.ErrRange},
		{"", 0, 7, api.ErrRange},
		{"a", 0, -4, api.ErrRange},
		{"a", 0, -5, api.ErrRange},
		{"a", 0, 60, api.ErrRange},
		{"a", 0, math.MaxInt, api.ErrRange},
		{"a", 0, math.MinInt, api.ErrRange},
		{"a", -1, 0, api.ErrRange},
		{"", -1, 0, api.ErrRange},
		{"a", math.MinInt, 0, api.ErrRange},
		{"a", 1, 7, api.ErrRange}, // named ahead of ErrNone
		{"a", 99, -1, api.ErrRange},
		{"", 1, 0, api.ErrNone},
		{"", 1, 6, api.ErrNone},
		{"a", 1, 0, api.ErrNone},
		{x(16), 1, 0, api.ErrNone},
		{x(17), 2, 0, api.ErrNone},
		{x(32), 1, 1, api.ErrNone},
		{x(64), 1, 2, api.ErrNone},
		{x(128), 1, 3, api.ErrNone},
		{x(200), 13, 0, api.ErrNone},
		{x(200), 1, 4, api.ErrNone},
		{x(200), 1, 6, api.ErrNone},
		{x(200), api.MaxBlock, 0, api.ErrNone},
		{x(200), api.MaxBlock + 1, 0, api.ErrNone},
		{x(200), math.MaxInt, 0, api.ErrNone},
	} {
		if s, b, e := block.Cut(c.payload, c.number, c.size); s != "" || b != (api.Block{}) || e != c.want {
			t.Errorf("Cut(%q, %d, %d) is %q %v %d, must be %d", c.payload, c.number, c.size, s, b, e, c.want)
		}
	}
}

// Where these begin would wrap round to a place that is there.
func TestG1CutOfGreatNumbers(t *testing.T) {
	for size := 0; size <= api.MaxSize; size++ {
		for _, bits := range []int{31, 32, 63, 64} {
			for more := range 3 {
				number := 1<<(bits-size-4) + more
				if s, b, e := block.Cut(x(200), number, size); s != "" || b != (api.Block{}) || e != api.ErrNone {
					t.Errorf("Cut(.., %d, %d) is %q %v %d", number, size, s, b, e)
				}
			}
		}
	}
}

func TestG2Join(t *testing.T) {
	p := bytes(200)
	for _, c := range []struct {
		pieces []string
		blocks []api.Block
		want   string
	}{
		{texts(""), blocks(api.Block{}), ""},
		{texts(""), line(1, 6), ""},
		{texts("a"), line(1, 0), "a"},
		{texts(p[:16]), line(1, 0), p[:16]},
		{texts(p[:16], "a"), line(2, 0), p[:16] + "a"},
		{texts(p[:16], p[16:32]), line(2, 0), p[:32]},
		{texts(p[16:32], p[:16], p[16:32], "z"), line(4, 0), p[16:32] + p[:32] + "z"},
		{texts(p[:32], p[32:33]), line(2, 1), p[:33]},
		{texts(p[:64], p[64:128], p[128:192], p[192:]), line(4, 2), p},
		{texts(p[:128], p[128:]), line(2, 3), p},
		{texts(p), line(1, 4), p},
		{texts(p), line(1, 5), p},
		{texts(p), line(1, 6), p},
	} {
		if s, e := block.Join(c.pieces, c.blocks); s != c.want || e != api.OK {
			t.Errorf("Join(%q, %v) is %q %d, must be %q", c.pieces, c.blocks, s, e, c.want)
		}
	}
}

func TestG2JoinForm(t *testing.T) {
	for _, c := range []struct {
		pieces []string
		blocks []api.Block
	}{
		{nil, nil},
		{texts(), blocks()},
		{nil, line(1, 0)},
		{texts("a"), nil},
		{texts(x(16), "a"), line(1, 0)},
		{texts("a"), line(2, 0)},
		{texts(x(16), "a"), line(3, 0)},
		// Named ahead of all others.
		{nil, blocks(api.Block{Size: 7})},
		{texts(x(16), "a"), blocks(api.Block{Size: 7})},
		{texts("a"), blocks(api.Block{More: true}, api.Block{Number: 7})},
		{texts(x(1000), x(1000)), line(1, 6)},
	} {
		if s, e := block.Join(c.pieces, c.blocks); s != "" || e != api.ErrForm {
			t.Errorf("Join(%q, %v) is %q %d", c.pieces, c.blocks, s, e)
		}
	}
}

func TestG2JoinRange(t *testing.T) {
	for _, size := range []int{-1, 7, 8, -4, -5, 60, math.MaxInt, math.MinInt} {
		for _, c := range []struct {
			pieces []string
			blocks []api.Block
		}{
			{texts("a"), line(1, size)},
			{texts(""), line(1, size)},
			{texts(x(16), "a"), line(2, size)},
			{texts(x(16), "a"), blocks(api.Block{More: true, Size: size}, api.Block{Number: 1})},
			// Named ahead of ErrState, whichever one it is told of, and of ErrMany.
			{texts(x(16), "a"), blocks(api.Block{More: true}, api.Block{Number: 1, Size: size})},
			{texts("", x(99), ""), blocks(api.Block{Number: 5}, api.Block{Size: 1, More: true}, api.Block{Size: size})},
			{texts(x(2000)), blocks(api.Block{Size: size, More: true, Number: -1})},
		} {
			if s, e := block.Join(c.pieces, c.blocks); s != "" || e != api.ErrRange {
				t.Errorf("Join(%q, %v) is %q %d", c.pieces, c.blocks, s, e)
			}
		}
	}
}

func TestG2JoinState(t *testing.T) {
	full := x(16)
	three := func() ([]string, []api.Block) { return texts(full, full, "abc"), line(3, 0) }
	if s, e := block.Join(three()); s != x(32)+"abc" || e != api.OK {
		t.Fatalf("Join of three is %q %d", s, e)
	}
	for name, spoil := range map[string]func(pieces []string, blocks []api.Block){
		"first one of another size":   func(_ []string, b []api.Block) { b[0].Size = 1 },
		"second one of another size":  func(_ []string, b []api.Block) { b[1].Size = 1 },
		"last one of another size":    func(_ []string, b []api.Block) { b[2].Size = 6 },
		"a full second one of size 1": func(p []string, b []api.Block) { b[1].Size, p[1] = 1, x(32) },
		"first one out of place":      func(_ []string, b []api.Block) { b[0].Number = 1 },
		"second one out of place":     func(_ []string, b []api.Block) { b[1].Number = 0 },
		"last one out of place":       func(_ []string, b []api.Block) { b[2].Number = 3 },
		"a number below 0":            func(_ []string, b []api.Block) { b[0].Number = -1 },
		"a great number":              func(_ []string, b []api.Block) { b[2].Number = math.MaxInt },
		"numbers from 1 on":           func(_ []string, b []api.Block) { b[0].Number, b[1].Number, b[2].Number = 1, 2, 3 },
		"two the other way":           func(_ []string, b []api.Block) { b[0], b[1] = b[1], b[0] },
		"first one without more":      func(_ []string, b []api.Block) { b[0].More = false },
		"second one without more":     func(_ []string, b []api.Block) { b[1].More = false },
		"last one with more":          func(_ []string, b []api.Block) { b[2].More = true },
		"full last one with more":     func(p []string, b []api.Block) { b[2].More, p[2] = true, full },
		"first one too great":         func(p []string, _ []api.Block) { p[0] += "x" },
		"second one too great":        func(p []string, _ []api.Block) { p[1] += "x" },
		"last one too great":          func(p []string, _ []api.Block) { p[2] = full + "x" },
		"first one not full":          func(p []string, _ []api.Block) { p[0] = x(15) },
		"second one not full":         func(p []string, _ []api.Block) { p[1] = x(15) },
		"first one empty":             func(p []string, _ []api.Block) { p[0] = "" },
		"second one empty":            func(p []string, _ []api.Block) { p[1] = "" },
		"last one empty":              func(p []string, _ []api.Block) { p[2] = "" },
		// Named ahead of ErrMany.
		"great bytes":                 func(p []string, _ []api.Block) { p[2] = x(300) },
		"great bytes ahead of wrong":  func(p []string, b []api.Block) { p[0], b[2].Number = x(300), 7 },
		"great bytes behind a wrong":  func(p []string, b []api.Block) { b[0].Number, p[2] = 7, x(300) },
		"all of another, greater one": func(_ []string, b []api.Block) { b[0].Size, b[1].Size, b[2].Size = 1, 1, 1 },
	} {
		pieces, all := three()
		spoil(pieces, all)
		if s, e := block.Join(pieces, all); s != "" || e != api.ErrState {
			t.Errorf("%s: Join(%q, %v) is %q %d", name, pieces, all, s, e)
		}
	}
	for size := 0; size <= api.MaxSize; size++ {
		room := 16 << size
		for name, c := range map[string]struct {
			pieces []string
			blocks []api.Block
		}{
			"one too great":               {texts(x(room + 1)), line(1, size)},
			"one with more":               {texts(x(room)), blocks(api.Block{More: true, Size: size})},
			"an empty one with more":      {texts(""), blocks(api.Block{More: true, Size: size})},
			"one that is not in place":    {texts("a"), blocks(api.Block{Number: 1, Size: size})},
			"first one not full":          {texts(x(room-1), "a"), line(2, size)},
			"nothing behind a full one":   {texts(x(room), ""), line(2, size)},
			"state ahead of too many":     {texts(x(room), x(room), x(201)[:min(room+1, 201)], ""), line(4, size)},
			"a full one of a lesser size": {texts(x(room/2), "a"), line(2, size)},
		} {
			if s, e := block.Join(c.pieces, c.blocks); s != "" || e != api.ErrState {
				t.Errorf("%s: Join(%q, %v) is %q %d", name, c.pieces, c.blocks, s, e)
			}
		}
	}
}

func TestG2JoinMany(t *testing.T) {
	for size := 0; size <= api.MaxSize; size++ {
		room := 16 << size
		var pieces []string
		left := api.MaxPayload
		for ; left > room; left -= room {
			pieces = append(pieces, x(room))
		}
		for more := range 3 {
			if left+more > room {
				continue
			}
			all := append(append([]string{}, pieces...), x(left+more))
			want, err := x(api.MaxPayload), api.OK
			if more > 0 {
				want, err = "", api.ErrMany
			}
			if s, e := block.Join(all, line(len(all), size)); s != want || e != err {
				t.Errorf("Join of %d bytes of size %d is %q %d, must be %d", api.MaxPayload+more, size, s, e, err)
			}
		}
	}
	for _, c := range [][]string{
		append(strings.SplitAfter(strings.Repeat(x(15)+"|", 13), "|")[:13], "a"), // one more than may be
		strings.SplitAfter(strings.Repeat(x(15)+"|", 50), "|")[:50],
	} {
		if s, e := block.Join(c, line(len(c), 0)); s != "" || e != api.ErrMany {
			t.Errorf("Join(%q) is %q %d", c, s, e)
		}
	}
	if s, e := block.Join(texts(x(1024), x(1024), "a"), line(3, 6)); s != "" || e != api.ErrMany {
		t.Errorf("Join of great pieces is %q %d", s, e)
	}
}

// cut all blocks of a payload, till there is none.
func cut(payload string, size int) ([]string, []api.Block, api.Errno) {
	var pieces []string
	var all []api.Block
	for {
		s, b, e := block.Cut(payload, len(pieces), size)
		if e != api.OK || len(pieces) > api.MaxPayload {
			return pieces, all, e
		}
		pieces, all = append(pieces, s), append(all, b)
	}
}

func TestG3WhatIsCutIsJoined(t *testing.T) {
	for n := 0; n <= api.MaxPayload; n++ {
		for size := 0; size <= api.MaxSize; size++ {
			p := bytes(n)
			pieces, all, e := cut(p, size)
			if want := max((n+(16<<size)-1)/(16<<size), 1); e != api.ErrNone || len(pieces) != want {
				t.Errorf("%d bytes of size %d are %d blocks, then %d; must be %d", n, size, len(pieces), e, want)
			}
			if s, e := block.Join(pieces, all); s != p || e != api.OK {
				t.Errorf("%d bytes of size %d: Join is %q %d, must be %q", n, size, s, e, p)
			}
		}
	}
}

// Of all that is joined the pieces are those that are cut.
func TestG3WhatIsJoinedIsCut(t *testing.T) {
	lengths := []int{0, 1, 15, 16, 17, 31, 32, 33}
	joined := 0
	for code := range 8 * 8 * 8 {
		for many := 1; many <= 3; many++ {
			for size := 0; size <= 1; size++ {
				var pieces []string
				for i := range many {
					pieces = append(pieces, bytes(99)[i:i+lengths[code>>(3*i)%8]])
				}
				s, e := block.Join(pieces, line(many, size))
				if e != api.OK {
					continue
				}
				joined++
				again, all, _ := cut(s, size)
				if !reflect.DeepEqual(again, pieces) || !reflect.DeepEqual(all, line(many, size)) {
					t.Errorf("%q are joined to %q, cut to %q %v", pieces, s, again, all)
				}
			}
		}
	}
	// Of size 0 the last one is one of 4 (or 3, behind a full one), of size 1 one of 7 (or 6); those that are not looked at are any.
	if want := (4+7)*64 + (3+6)*8 + (3 + 6); joined != want {
		t.Errorf("%d were joined, must be %d", joined, want)
	}
}

var hostile = []int{math.MinInt, math.MinInt + 1, math.MinInt32, -65, -64, -6, -5, -4, -1, 0, 1, 2, 6, 7, 12, 13, 60, 63, 64, api.MaxBlock, api.MaxBlock + 1, math.MaxInt32, 1 << 54, 1 << 60, math.MaxInt - 1, math.MaxInt}

func TestP1NothingPanicsAndErrorsAnswerNothingElse(t *testing.T) {
	defer func() {
		if r := recover(); r != nil {
			t.Fatalf("panic: %v", r)
		}
	}()
	for _, a := range hostile {
		for _, b := range hostile {
			for _, n := range []int{0, 1, 16, 200, 201, 5000} {
				s, got, e := block.Cut(x(n), a, b)
				if e != api.OK && (s != "" || got != api.Block{}) {
					t.Errorf("Cut(.., %d, %d) is %q %v %d", a, b, s, got, e)
				}
				for _, pieces := range [][]string{nil, {x(n)}, {x(16), x(n)}, {x(n), "", x(16)}} {
					for _, all := range [][]api.Block{nil, {{Number: a, Size: b}}, {{Number: a, Size: b, More: true}, {Number: b, Size: a}}, {{More: true}, {Number: 1, More: true, Size: a}, {Number: b}}} {
						if s, e := block.Join(pieces, all); e != api.OK && s != "" {
							t.Errorf("Join(%q, %v) is %q %d", pieces, all, s, e)
						}
					}
				}
			}
		}
	}
}

func TestP2WhatIsHandedInIsOnlyRead(t *testing.T) {
	pieces := func() []string { return texts(x(16), x(16), "a", "spare", "room") }
	all := func() []api.Block { return append(line(3, 0), api.Block{Number: 77}, api.Block{Size: 77}) }
	for n := range 6 {
		for m := range 6 {
			p, b := pieces(), all()
			block.Join(p[:n], b[:m])
			if !reflect.DeepEqual(p, pieces()) || !reflect.DeepEqual(b, all()) {
				t.Errorf("Join of %d and %d made them %q %v", n, m, p, b)
			}
		}
	}
}

// within: does a text lie in the memory of another one?
func within(part, all string) bool {
	if part == "" || all == "" {
		return false
	}
	at := uintptr(unsafe.Pointer(unsafe.StringData(part)))
	from := uintptr(unsafe.Pointer(unsafe.StringData(all)))
	return at >= from && at < from+uintptr(len(all))
}

func TestP2AnswersAreNewMemory(t *testing.T) {
	for _, n := range []int{16, 40, 200} {
		p := bytes(n)
		for size := 0; size <= api.MaxSize; size++ {
			pieces, all, _ := cut(p, size)
			s, _ := block.Join(pieces, all)
			for _, piece := range pieces {
				if within(piece, p) || within(piece, s) || within(s, piece) {
					t.Errorf("the pieces of %d bytes of size %d share memory", n, size)
				}
			}
		}
	}
}

func TestP2WhatIsChangedLaterIsNotSeen(t *testing.T) {
	pieces, all := texts(x(16), "a"), line(2, 0)
	s, _ := block.Join(pieces, all)
	pieces[0], pieces[1], all[0].Number = "b", "c", 9
	if s != x(16)+"a" {
		t.Errorf("it is %q now", s)
	}
}

func TestP3OneAnswerForOneQuestion(t *testing.T) {
	ask := func() string {
		a, b, e := block.Cut(bytes(50), 1, 1)
		s, f := block.Join(texts(x(16), "a"), line(2, 0))
		u, g := block.Join(texts(x(16), ""), line(2, 0))
		return fmt.Sprint(a, b, e, s, f, u, g)
	}
	first := ask()
	for i := range 100 {
		block.Cut(bytes(2*i+2), i%8, i%9-1)
		block.Join(texts(x(i), x(i)), line(2, i%8))
		if again := ask(); again != first {
			t.Fatalf("it was %s and is %s", first, again)
		}
	}
}

func TestP4GreatThings(t *testing.T) {
	great := x(8 << 20)
	if s, b, e := block.Cut(great, 0, 0); s != "" || b != (api.Block{}) || e != api.ErrMany {
		t.Errorf("Cut of a great payload is %d", e)
	}
	if s, e := block.Join(texts(great), line(1, 6)); s != "" || e != api.ErrState {
		t.Errorf("Join of a great piece is %d", e)
	}
	many := make([]string, 1<<20)
	for i := range many {
		many[i] = great[:16]
	}
	if s, e := block.Join(many, line(len(many), 0)); s != "" || e != api.ErrMany {
		t.Errorf("Join of great many pieces is %d", e)
	}
	all := line(len(many), 0)
	all[len(all)-1].More = true
	if s, e := block.Join(many, all); s != "" || e != api.ErrState {
		t.Errorf("Join of great many pieces, the last one wrong, is %d", e)
	}
	if s, e := block.Join(many[1:], all); s != "" || e != api.ErrForm {
		t.Errorf("Join of one piece too few is %d", e)
	}
}
