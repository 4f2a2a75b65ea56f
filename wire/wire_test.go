package wire_test

import (
	"math"
	"strings"
	"testing"
	"unsafe"

	"dragoman/api"
	"dragoman/wire"
)

func TestA1Number(t *testing.T) {
	for _, c := range []struct {
		n, bytes int
		want     string
		err      api.Errno
	}{
		{0, 1, "\x00", api.OK},
		{255, 1, "\xff", api.OK},
		{256, 1, "", api.ErrRange},
		{0, 2, "\x00\x00", api.OK},
		{0x0102, 2, "\x01\x02", api.OK},
		{65535, 2, "\xff\xff", api.OK},
		{65536, 2, "", api.ErrRange},
		{0x010203, 3, "\x01\x02\x03", api.OK},
		{1<<24 - 1, 3, "\xff\xff\xff", api.OK},
		{1 << 24, 3, "", api.ErrRange},
		{0x01020304, 4, "\x01\x02\x03\x04", api.OK},
		{1, 4, "\x00\x00\x00\x01", api.OK},
		{1<<32 - 1, 4, "\xff\xff\xff\xff", api.OK},
		{1 << 32, 4, "", api.ErrRange},
		{math.MaxInt, 4, "", api.ErrRange},
		{-1, 1, "", api.ErrRange},
		{-1, 4, "", api.ErrRange},
		{math.MinInt, 4, "", api.ErrRange},
		{0, 0, "", api.ErrKind},
		{0, 5, "", api.ErrKind},
		{0, -1, "", api.ErrKind},
		{0, math.MaxInt, "", api.ErrKind},
		{0, math.MinInt, "", api.ErrKind},
		{-1, 0, "", api.ErrKind}, // ErrKind is named ahead of ErrRange
		{-1, 5, "", api.ErrKind},
	} {
		got, err := wire.Number(c.n, c.bytes)
		if got != c.want || err != c.err {
			t.Errorf("Number(%d, %d) is %q %d, must be %q %d", c.n, c.bytes, got, err, c.want, c.err)
		}
	}
}

func TestA1Get(t *testing.T) {
	for _, c := range []struct {
		s         string
		at, bytes int
		want      int
		err       api.Errno
	}{
		{"\x01\x02\x03\x04\x05", 0, 1, 1, api.OK},
		{"\x01\x02\x03\x04\x05", 0, 2, 0x0102, api.OK},
		{"\x01\x02\x03\x04\x05", 1, 3, 0x020304, api.OK},
		{"\x01\x02\x03\x04\x05", 1, 4, 0x02030405, api.OK},
		{"\x01\x02\x03\x04\x05", 4, 1, 5, api.OK},
		{"\xff\xff\xff\xff", 0, 4, 1<<32 - 1, api.OK},
		{"\x00\x00\x00\x00", 0, 4, 0, api.OK},
		{"\x01\x02\x03\x04\x05", 2, 4, 0, api.ErrShort},
		{"\x01\x02", 2, 1, 0, api.ErrShort}, // the end is a place
		{"", 0, 1, 0, api.ErrShort},
		{"\x01\x02", 3, 1, 0, api.ErrRange},
		{"\x01\x02", -1, 1, 0, api.ErrRange},
		{"", 1, 1, 0, api.ErrRange},
		{"\x01\x02", math.MaxInt, 4, 0, api.ErrRange},
		{"\x01\x02", math.MinInt, 4, 0, api.ErrRange},
		{"\x01\x02", 0, 0, 0, api.ErrKind},
		{"\x01\x02\x03\x04\x05", 0, 5, 0, api.ErrKind},
		{"\x01\x02", 0, -1, 0, api.ErrKind},
		{"\x01\x02", 0, math.MaxInt, 0, api.ErrKind},
		{"\x01\x02", 0, math.MinInt, 0, api.ErrKind},
		{"\x01\x02", -1, 0, 0, api.ErrKind}, // ErrKind is named ahead of ErrRange
		{"\x01\x02", 3, 5, 0, api.ErrKind},
		{"", 0, 5, 0, api.ErrKind}, // and of ErrShort
	} {
		got, err := wire.Get(c.s, c.at, c.bytes)
		if got != c.want || err != c.err {
			t.Errorf("Get(%q, %d, %d) is %d %d, must be %d %d", c.s, c.at, c.bytes, got, err, c.want, c.err)
		}
	}
}

func TestA2Long(t *testing.T) {
	for _, c := range []struct {
		n    int
		want string
		err  api.Errno
	}{
		{0, "\x00", api.OK},
		{1, "\x01", api.OK},
		{127, "\x7f", api.OK},
		{128, "\x80\x01", api.OK},
		{321, "\xc1\x02", api.OK},
		{16383, "\xff\x7f", api.OK},
		{16384, "\x80\x80\x01", api.OK},
		{2097151, "\xff\xff\x7f", api.OK},
		{2097152, "\x80\x80\x80\x01", api.OK},
		{api.MaxLong, "\xff\xff\xff\x7f", api.OK},
		{api.MaxLong + 1, "", api.ErrRange},
		{math.MaxInt, "", api.ErrRange},
		{-1, "", api.ErrRange},
		{math.MinInt, "", api.ErrRange},
	} {
		got, err := wire.Long(c.n)
		if got != c.want || err != c.err {
			t.Errorf("Long(%d) is %q %d, must be %q %d", c.n, got, err, c.want, c.err)
		}
	}
}

func TestA2GetLong(t *testing.T) {
	for _, c := range []struct {
		s       string
		at      int
		n, many int
		err     api.Errno
	}{
		{"\x00", 0, 0, 1, api.OK},
		{"\x7f\xff", 0, 127, 1, api.OK},
		{"\x80\x01", 0, 128, 2, api.OK},
		{"xy\xc1\x02z", 2, 321, 2, api.OK},
		{"\x80\x80\x01", 0, 16384, 3, api.OK},
		{"\x81\x80\x80\x01", 0, 2097153, 4, api.OK},
		{"\xff\xff\xff\x7f", 0, api.MaxLong, 4, api.OK},
		{"\xff\xff\xff\x7f\xff", 0, api.MaxLong, 4, api.OK},
		{"", 0, 0, 0, api.ErrShort},
		{"x", 1, 0, 0, api.ErrShort},
		{"\x80", 0, 0, 0, api.ErrShort},
		{"\x80\xff", 0, 0, 0, api.ErrShort},
		{"x\x80\x80\x80", 1, 0, 0, api.ErrShort},
		{"\x80\x80\x80\x80", 0, 0, 0, api.ErrForm},
		{"\xff\xff\xff\xff", 0, 0, 0, api.ErrForm},
		{"\xff\xff\xff\xff\x01", 0, 0, 0, api.ErrForm},
		{"\x80\x00", 0, 0, 0, api.ErrForm},
		{"\x81\x00", 0, 0, 0, api.ErrForm},
		{"\x81\x81\x00", 0, 0, 0, api.ErrForm},
		{"\x81\x81\x81\x00", 0, 0, 0, api.ErrForm},
		{"\x01", -1, 0, 0, api.ErrRange},
		{"\x01", 2, 0, 0, api.ErrRange},
		{"", 1, 0, 0, api.ErrRange},
		{"\x01", math.MaxInt, 0, 0, api.ErrRange},
		{"\x01", math.MinInt, 0, 0, api.ErrRange},
	} {
		n, many, err := wire.GetLong(c.s, c.at)
		if n != c.n || many != c.many || err != c.err {
			t.Errorf("GetLong(%q, %d) is %d %d %d, must be %d %d %d", c.s, c.at, n, many, err, c.n, c.many, c.err)
		}
	}
}

func TestA3Text(t *testing.T) {
	for _, c := range []struct {
		text, head string
		err        api.Errno
	}{
		{"", "\x00\x00", api.OK},
		{"hi", "\x00\x02", api.OK},
		{"\x00\xff/\n", "\x00\x04", api.OK},
		{strings.Repeat("t", 255), "\x00\xff", api.OK},
		{strings.Repeat("t", 256), "\x01\x00", api.OK},
		{strings.Repeat("t", 65535), "\xff\xff", api.OK},
		{strings.Repeat("t", 65536), "", api.ErrMany},
		{strings.Repeat("t", 1<<20), "", api.ErrMany},
	} {
		want := ""
		if c.err == api.OK {
			want = c.head + c.text
		}
		got, err := wire.Text(c.text)
		if got != want || err != c.err {
			t.Errorf("Text of %d bytes is %.9q.. (%d bytes) %d, must be %.9q.. (%d bytes) %d", len(c.text), got, len(got), err, want, len(want), c.err)
		}
	}
}

func TestA3GetText(t *testing.T) {
	most := strings.Repeat("t", 65535)
	for _, c := range []struct {
		s    string
		at   int
		want string
		many int
		err  api.Errno
	}{
		{"\x00\x00", 0, "", 2, api.OK},
		{"\x00\x02hi", 0, "hi", 4, api.OK},
		{"\x00\x02hi there", 0, "hi", 4, api.OK},
		{"xyz\x00\x03\x00\xff/", 3, "\x00\xff/", 5, api.OK},
		{"\xff\xff" + most, 0, most, 65537, api.OK},
		{"\xff\xff" + most[1:], 0, "", 0, api.ErrShort},
		{"\x00\x03hi", 0, "", 0, api.ErrShort},
		{"\x00\x01", 0, "", 0, api.ErrShort},
		{"\x00", 0, "", 0, api.ErrShort},
		{"", 0, "", 0, api.ErrShort},
		{"\x00\x02hi", 3, "", 0, api.ErrShort},
		{"\x00\x02hi", 4, "", 0, api.ErrShort},
		{"\x00\x02hi", 5, "", 0, api.ErrRange},
		{"\x00\x02hi", -1, "", 0, api.ErrRange},
		{"\x00\x02hi", math.MaxInt, "", 0, api.ErrRange},
		{"\x00\x02hi", math.MinInt, "", 0, api.ErrRange},
	} {
		got, many, err := wire.GetText(c.s, c.at)
		if got != c.want || many != c.many || err != c.err {
			t.Errorf("GetText(%.9q, %d) is %.9q %d %d, must be %.9q %d %d", c.s, c.at, got, many, err, c.want, c.many, c.err)
		}
	}
}

// numbers: those about each power of 2 (where a byte more is needed, among them), and some from all over.
func numbers() []int {
	var out []int
	for bit := 0; bit <= 33; bit++ {
		for d := -2; d <= 2; d++ {
			out = append(out, 1<<bit+d)
		}
	}
	for n := 1; n < 1<<33; n += n/3 + 1 {
		out = append(out, n)
	}
	return out
}

func TestA4NumbersAreReadAsTold(t *testing.T) {
	for _, n := range numbers() {
		for bytes := 1; bytes <= 4; bytes++ {
			s, err := wire.Number(n, bytes)
			if fits := n >= 0 && n < 1<<(8*bytes); fits != (err == api.OK) {
				t.Errorf("Number(%d, %d): error %d", n, bytes, err)
			}
			if err != api.OK {
				continue
			}
			if got, err := wire.Get("ab"+s+"c", 2, bytes); len(s) != bytes || got != n || err != api.OK {
				t.Errorf("%d by %d bytes is %q, read as %d %d", n, bytes, s, got, err)
			}
		}
	}
}

func TestA4LongsAreReadAsTold(t *testing.T) {
	for _, n := range numbers() {
		s, err := wire.Long(n)
		if fits := n >= 0 && n <= api.MaxLong; fits != (err == api.OK) {
			t.Errorf("Long(%d): error %d", n, err)
		}
		if err != api.OK {
			continue
		}
		if got, many, err := wire.GetLong("ab"+s+"\x80c", 2); got != n || many != len(s) || err != api.OK {
			t.Errorf("Long(%d) is %q, read as %d by %d bytes, %d", n, s, got, many, err)
		}
		for end := range s {
			if got, many, err := wire.GetLong("ab"+s[:end], 2); got != 0 || many != 0 || err != api.ErrShort {
				t.Errorf("Long(%d), cut to %d bytes, is read as %d by %d bytes, %d", n, end, got, many, err)
			}
		}
	}
}

// What is read must be told just so: no other bytes tell the same number.
func TestA4LongsAreToldInOneWay(t *testing.T) {
	edges := []byte{0, 1, 127, 128, 129, 255}
	for i := 0; i < 6*6*6*6*6; i++ {
		s := ""
		for k := i; len(s) < 5; k /= 6 {
			s += string(edges[k%6 : k%6+1])
		}
		n, many, err := wire.GetLong(s, 0)
		if err != api.OK {
			continue
		}
		if back, err := wire.Long(n); err != api.OK || back != s[:many] {
			t.Errorf("%q is read as %d by %d bytes, which is told by %q %d", s, n, many, back, err)
		}
	}
}

func TestA4TextsAreReadAsTold(t *testing.T) {
	for _, n := range []int{0, 1, 2, 255, 256, 257, 32768, 65534, 65535} {
		text := strings.Repeat("\x00\xfft", n)[:n]
		s, err := wire.Text(text)
		if err != api.OK {
			t.Errorf("Text of %d bytes: error %d", n, err)
		}
		if got, many, err := wire.GetText("abc"+s+"d", 3); got != text || many != len(s) || err != api.OK {
			t.Errorf("Text of %d bytes is read as one of %d, by %d bytes, %d", n, len(got), many, err)
		}
		if got, many, err := wire.GetText("abc"+s[:len(s)-1], 3); got != "" || many != 0 || err != api.ErrShort {
			t.Errorf("Text of %d bytes, cut, is read as one of %d, by %d bytes, %d", n, len(got), many, err)
		}
	}
}

// hostile: numbers that no caller should hand in, among some that may be.
var hostile = []int{math.MinInt, math.MinInt + 1, math.MinInt32, -65536, -256, -5, -1, 0, 1, 2, 3, 4, 5, 31, 63, 64, 255, 65536, math.MaxInt32, math.MaxInt - 4, math.MaxInt - 1, math.MaxInt}

func TestP1NothingPanicsAndErrorsAnswerNothingElse(t *testing.T) {
	defer func() {
		if r := recover(); r != nil {
			t.Fatalf("panic: %v", r)
		}
	}()
	for _, n := range hostile {
		if s, err := wire.Long(n); err != api.OK && s != "" {
			t.Errorf("Long(%d) is %q %d", n, s, err)
		}
		for _, m := range hostile {
			if s, err := wire.Number(n, m); err != api.OK && s != "" {
				t.Errorf("Number(%d, %d) is %q %d", n, m, s, err)
			}
		}
	}
	for _, s := range []string{"", "\x00", "\xff", "\xff\xff\xff\xff\xff", "\x80\x80\x80\x80\x80", "\x00\x05hi", "\xff\xffhi"} {
		for _, at := range hostile {
			if n, many, err := wire.GetLong(s, at); err != api.OK && (n != 0 || many != 0) {
				t.Errorf("GetLong(%q, %d) is %d %d %d", s, at, n, many, err)
			}
			if text, many, err := wire.GetText(s, at); err != api.OK && (text != "" || many != 0) {
				t.Errorf("GetText(%q, %d) is %q %d %d", s, at, text, many, err)
			}
			for _, bytes := range hostile {
				if n, err := wire.Get(s, at, bytes); err != api.OK && n != 0 {
					t.Errorf("Get(%q, %d, %d) is %d %d", s, at, bytes, n, err)
				}
			}
		}
	}
}

// within: does part lie in the memory of all?
func within(part, all string) bool {
	if part == "" || all == "" {
		return false
	}
	from := uintptr(unsafe.Pointer(unsafe.StringData(all)))
	at := uintptr(unsafe.Pointer(unsafe.StringData(part)))
	return at >= from && at < from+uintptr(len(all))
}

func TestP2AnswersAreNewMemory(t *testing.T) {
	s := strings.Repeat("\x00\x02hi", 9)
	if got, _, _ := wire.GetText(s, 4); got != "hi" || within(got, s) {
		t.Errorf("GetText answers %q, within what it was handed: %t", got, within(got, s))
	}
	text := strings.Repeat("t", 9)
	if got, _ := wire.Text(text); len(got) != 11 || within(got[2:], text) {
		t.Errorf("Text answers %q, within what it was handed: %t", got, within(got, text))
	}
}

func TestP3OneAnswerForOneQuestion(t *testing.T) {
	ask := func() [8]any {
		var a [8]any
		a[0], _ = wire.Number(513, 3)
		a[1], _ = wire.Get("abcd", 1, 2)
		a[2], _ = wire.Long(300)
		a[3], a[4], _ = wire.GetLong("\x81\x02", 0)
		a[5], _ = wire.Text("abc")
		a[6], a[7], _ = wire.GetText("\x00\x02hi", 0)
		return a
	}
	first := ask()
	for i := 0; i < 100; i++ {
		wire.Number(i, i%6)
		wire.Get(strings.Repeat("\x80", i), i/2, i%6)
		wire.Long(i * i * i)
		wire.GetLong(strings.Repeat("\x80", i), i/2)
		wire.Text(strings.Repeat("z", i*1000))
		wire.GetText(strings.Repeat("\x00", i), i/2)
		if again := ask(); again != first {
			t.Fatalf("it was %v and is %v", first, again)
		}
	}
}

func TestP4GreatTextsAreRead(t *testing.T) {
	const far = 1 << 26
	s := strings.Repeat("\x80", far) + "\x00\x02hi"
	if n, err := wire.Get(s, far, 2); n != 2 || err != api.OK {
		t.Errorf("Get is %d %d", n, err)
	}
	if n, many, err := wire.GetLong(s, far-1); n != 0 || many != 0 || err != api.ErrForm {
		t.Errorf("GetLong is %d %d %d", n, many, err)
	}
	if n, many, err := wire.GetLong(s, far+1); n != 2 || many != 1 || err != api.OK {
		t.Errorf("GetLong is %d %d %d", n, many, err)
	}
	if text, many, err := wire.GetText(s, far); text != "hi" || many != 4 || err != api.OK {
		t.Errorf("GetText is %q %d %d", text, many, err)
	}
	if text, err := wire.Text(s); text != "" || err != api.ErrMany {
		t.Errorf("Text is one of %d bytes, %d", len(text), err)
	}
}
