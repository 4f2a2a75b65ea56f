package topic_test

import (
	"regexp"
	"strings"
	"testing"

	"dragoman/api"
	"dragoman/topic"
)

func x(n int) string { return strings.Repeat("x", n) }

func TestB1NameAndFilter(t *testing.T) {
	for _, c := range []struct {
		s            string
		name, filter api.Errno
	}{
		{"a", api.OK, api.OK},
		{"a/b", api.OK, api.OK},
		{"/", api.OK, api.OK},
		{"a/", api.OK, api.OK},
		{"/a", api.OK, api.OK},
		{"a//b", api.OK, api.OK},
		{"//", api.OK, api.OK},
		{"$SYS/x", api.OK, api.OK},
		{"!/~", api.OK, api.OK}, // bytes 33 and 126
		{"", api.ErrForm, api.ErrForm},
		{" ", api.ErrForm, api.ErrForm}, // byte 32
		{"a b", api.ErrForm, api.ErrForm},
		{"a/b\x7f", api.ErrForm, api.ErrForm}, // byte 127
		{"a\x00", api.ErrForm, api.ErrForm},
		{"\xff/a", api.ErrForm, api.ErrForm},
		{"\u00e9", api.ErrForm, api.ErrForm},
		{"a/\n", api.ErrForm, api.ErrForm},
		{"+", api.ErrForm, api.OK},
		{"+/+", api.ErrForm, api.OK},
		{"a/+/b", api.ErrForm, api.OK},
		{"/+", api.ErrForm, api.OK},
		{"+/", api.ErrForm, api.OK},
		{"#", api.ErrForm, api.OK},
		{"/#", api.ErrForm, api.OK},
		{"+/#", api.ErrForm, api.OK},
		{"a/b/#", api.ErrForm, api.OK},
		{"a+", api.ErrForm, api.ErrForm},
		{"+a", api.ErrForm, api.ErrForm},
		{"++", api.ErrForm, api.ErrForm},
		{"a/b+/c", api.ErrForm, api.ErrForm},
		{"a#", api.ErrForm, api.ErrForm},
		{"#a", api.ErrForm, api.ErrForm},
		{"##", api.ErrForm, api.ErrForm},
		{"+#", api.ErrForm, api.ErrForm},
		{"#+", api.ErrForm, api.ErrForm},
		{"#/", api.ErrForm, api.ErrForm},
		{"#/a", api.ErrForm, api.ErrForm},
		{"#/#", api.ErrForm, api.ErrForm},
		{"a/#/b", api.ErrForm, api.ErrForm},
		{"a/#/+", api.ErrForm, api.ErrForm},
		{x(60), api.OK, api.OK},
		{x(61), api.ErrMany, api.ErrMany},
		{x(58) + "/#", api.ErrForm, api.OK},
		{x(59) + "/#", api.ErrMany, api.ErrMany},
		{x(58) + "/+", api.ErrForm, api.OK},
		{x(59) + "/+", api.ErrMany, api.ErrMany},
		{"a/b/c/d/e/f", api.OK, api.OK},
		{"/////", api.OK, api.OK},
		{"a/b/c/d/e/f/g", api.ErrMany, api.ErrMany},
		{"//////", api.ErrMany, api.ErrMany},
		{"a/b/c/d/e/#", api.ErrForm, api.OK},
		{"a/b/c/d/e/f/#", api.ErrMany, api.ErrMany},
		{"+/+/+/+/+/+", api.ErrForm, api.OK},
		{"+/+/+/+/+/+/+", api.ErrMany, api.ErrMany},
		{x(60) + " ", api.ErrMany, api.ErrMany}, // ErrMany is named ahead of a wrong byte
		{" /b/c/d/e/f/g", api.ErrMany, api.ErrMany},
		{"a+/b/c/d/e/f/g", api.ErrMany, api.ErrMany},
	} {
		if e := topic.Name(c.s); e != c.name {
			t.Errorf("Name(%q) is %d, must be %d", c.s, e, c.name)
		}
		if e := topic.Filter(c.s); e != c.filter {
			t.Errorf("Filter(%q) is %d, must be %d", c.s, e, c.filter)
		}
	}
}

func TestB1EachByte(t *testing.T) {
	for c := 0; c < 256; c++ {
		s := "a" + string([]byte{byte(c)}) + "b"
		want := api.ErrForm
		if c >= 33 && c <= 126 && c != '+' && c != '#' {
			want = api.OK
		}
		if e := topic.Name(s); e != want {
			t.Errorf("Name(%q) is %d, must be %d", s, e, want)
		}
		if e := topic.Filter(s); e != want {
			t.Errorf("Filter(%q) is %d, must be %d", s, e, want)
		}
	}
}

func TestB1Match(t *testing.T) {
	for _, c := range []struct {
		filter, name string
		want         bool
	}{
		{"a", "a", true},
		{"a", "A", false},
		{"a", "aa", false},
		{"aa", "a", false},
		{"a", "a/", false},
		{"a/b", "a/b", true},
		{"a/b", "a", false},
		{"a", "a/b", false},
		{"/a", "a", false},
		{"/", "/", true},
		{"+", "a", true},
		{"+", "/", false},
		{"+", "a/b", false},
		{"+/+", "/", true}, // + is for an empty level too
		{"+/+", "/a", true},
		{"/+", "/a", true},
		{"/+", "a/a", false},
		{"a/+", "a/", true},
		{"a/+", "a", false},
		{"a/+/c", "a/b/c", true},
		{"a/+/c", "a//c", true},
		{"a/+/c", "a/b/d", false},
		{"a/+/c", "a/b/b/c", false},
		{"#", "a", true},
		{"#", "/", true},
		{"#", "a/b/c/d/e/f", true},
		{"a/#", "a", true}, // none are left
		{"a/#", "a/", true},
		{"a/#", "a/b/c", true},
		{"a/#", "ab", false},
		{"a/#", "b/a", false},
		{"a/b/#", "a", false},
		{"/#", "/", true},
		{"/#", "/a/b", true},
		{"/#", "a", false},
		{"+/#", "a", true},
		{"+/#", "/a/b", true},
		{"a/+/#", "a", false},
		{"a/+/#", "a/b", true},
		{"a/+/#", "a/b/c", true},
		{"a/b/c/d/e/#", "a/b/c/d/e", true},
		{"a/b/c/d/e/#", "a/b/c/d/e/f", true},
		{x(58) + "/#", x(58), true},
		{x(58) + "/#", x(58) + "/y", true},
		{x(58) + "/#", x(59), false},
	} {
		if got, e := topic.Match(c.filter, c.name); got != c.want || e != api.OK {
			t.Errorf("Match(%q, %q) is %t %d, must be %t", c.filter, c.name, got, e, c.want)
		}
	}
}

func TestB1Covers(t *testing.T) {
	for _, c := range []struct {
		a, b string
		want bool
	}{
		{"a", "a", true},
		{"a", "b", false},
		{"a", "+", false},
		{"a", "#", false},
		{"+", "a", true},
		{"+", "+", true},
		{"+", "#", false},
		{"+", "+/#", false},
		{"+", "a/#", false},
		{"+/+", "/+", true},
		{"+/+", "+/a", true},
		{"/+", "+/+", false},
		{"+/+", "/#", false},
		{"#", "#", true},
		{"#", "+/#", true},
		{"#", "/", true},
		{"#", "a/b/c/d/e/f", true},
		{"+/#", "#", true}, // the empty text is no topic
		{"/+/#", "/#", true},
		{"+/+/#", "/#", true},
		{"/#", "/+/#", true},
		{"+/#", "/#", true},
		{"/#", "#", false},
		{"/+/#", "#", false},
		{"+/+/#", "#", false},
		{"+/+/#", "+/#", false},
		{"+/+/+/#", "/#", false},
		{"/a/#", "/#", false},
		{"//#", "/#", false},
		{"/+/#", "//#", true},
		{"/+/+/#", "//#", false}, // of these "/" is one
		{"a/#", "a", true},
		{"a/#", "a/#", true},
		{"a/#", "a/+", true},
		{"a/#", "a/+/#", true},
		{"a/+/#", "a/#", false},
		{"a/#", "+/#", false},
		{"a/#", "#", false},
		{"+/b", "a/b", true},
		{"+/b", "a/+", false},
		{"a/+", "+/b", false},
		{"a/b/c/d/#", "a/b/c/d/e/#", true},
		{"a/b/c/d/e/#", "a/b/c/d/e/+", true},
		{"a/b/c/d/e/+", "a/b/c/d/e/#", false},
		{"+/+/+/+/+/#", "#", false},
		{"+/+/+/+/+/+", "a/+/c/+/e/f", true},
		{"+/#", x(58) + "/#", true},
		{x(58) + "/+", x(58) + "/#", false},
		{x(58) + "/#", x(58) + "/+", true},
		{"y/" + x(58), "+/" + x(58), false},
	} {
		if got, e := topic.Covers(c.a, c.b); got != c.want || e != api.OK {
			t.Errorf("Covers(%q, %q) is %t %d, must be %t", c.a, c.b, got, e, c.want)
		}
	}
}

func TestB1ErrorsOfTheFirstComeFirst(t *testing.T) {
	for _, c := range []struct {
		a, b          string
		match, covers api.Errno
	}{
		{"", "a", api.ErrForm, api.ErrForm},
		{"a", "", api.ErrForm, api.ErrForm},
		{"a", "+", api.ErrForm, api.OK},
		{"#", "#", api.ErrForm, api.OK},
		{"a", "#/a", api.ErrForm, api.ErrForm},
		{"#", x(61), api.ErrMany, api.ErrMany},
		{x(61), "a", api.ErrMany, api.ErrMany},
		{"", x(61), api.ErrForm, api.ErrForm},
		{x(61), "", api.ErrMany, api.ErrMany},
		{"a+", "a/b/c/d/e/f/g", api.ErrForm, api.ErrForm},
		{"a/b/c/d/e/f/g", "a+", api.ErrMany, api.ErrMany},
	} {
		if got, e := topic.Match(c.a, c.b); e != c.match || e != api.OK && got {
			t.Errorf("Match(%q, %q) is %t %d, must be %d", c.a, c.b, got, e, c.match)
		}
		if got, e := topic.Covers(c.a, c.b); e != c.covers || e != api.OK && got {
			t.Errorf("Covers(%q, %q) is %t %d, must be %d", c.a, c.b, got, e, c.covers)
		}
	}
}

// made: all texts of at most so many levels, each of them one of parts, that ok says OK of.
func made(most int, parts []string, ok func(string) api.Errno) []string {
	var out []string
	row := parts
	for range most {
		var next []string
		for _, s := range row {
			if ok(s) == api.OK {
				out = append(out, s)
			}
			for _, p := range parts {
				next = append(next, s+"/"+p)
			}
		}
		row = next
	}
	return out
}

// few topics and filters: among the topics are levels (z) that no filter names, and topics that are longer than any filter.
func few() (filters, names []string) {
	filters = made(4, []string{"", "a", "+", "#"}, topic.Filter)
	names = made(5, []string{"", "a", "z"}, topic.Name)
	return filters, names
}

// pattern: the regular expression of the texts that a filter is for.
func pattern(filter string) *regexp.Regexp {
	p := "^" + strings.ReplaceAll(regexp.QuoteMeta(filter), `\+`, "[^/]*")
	if p == "^#" {
		p = "^.+"
	}
	return regexp.MustCompile(strings.ReplaceAll(p, "/#", "(/.*)?") + "$")
}

func TestB1MatchIsAsThePattern(t *testing.T) {
	filters, names := few()
	if len(filters) < 100 || len(names) < 300 {
		t.Fatalf("only %d filters and %d names are tried", len(filters), len(names))
	}
	for _, f := range filters {
		p := pattern(f)
		for _, n := range names {
			if got, e := topic.Match(f, n); e != api.OK || got != p.MatchString(n) {
				t.Errorf("Match(%q, %q) is %t %d", f, n, got, e)
			}
		}
	}
}

// matched: by filter, of which of names it is one (a sign each).
func matched(filters, names []string) map[string]string {
	out := map[string]string{}
	for _, f := range filters {
		p := pattern(f)
		row := make([]byte, len(names))
		for i, n := range names {
			row[i] = '-'
			if p.MatchString(n) {
				row[i] = 'x'
			}
		}
		out[f] = string(row)
	}
	return out
}

func isWithin(b, a string) bool {
	for i := range b {
		if b[i] == 'x' && a[i] != 'x' {
			return false
		}
	}
	return true
}

func TestB2WhatCoversIsForAllThatIsCovered(t *testing.T) {
	filters, names := few()
	rows := matched(filters, names)
	for _, a := range filters {
		for _, b := range filters {
			want := isWithin(rows[b], rows[a])
			if got, e := topic.Covers(a, b); e != api.OK || got != want {
				t.Errorf("Covers(%q, %q) is %t %d, must be %t", a, b, got, e, want)
			}
		}
	}
}

// The limits of topics make some filters for few topics only: at them it must hold too.
func TestB2AtTheLimits(t *testing.T) {
	filters := []string{"#", "+/#", "+/+/#", "+", "+/+", x(58) + "/#", x(58) + "/+", x(58) + "/", x(58), "+/" + x(58), "y/" + x(58), "/" + x(58), x(56) + "/+/#", x(56) + "/#", x(60), x(59)}
	for _, tail := range []string{"", "/", "/f", "/+", "/#"} {
		filters = append(filters, "a/b/c/d/e"+tail, "+/+/+/+/+"+tail, "////"+tail, "a/+/+/+/e"+tail)
	}
	names := []string{"a", "/", "//", x(56), x(58), x(58) + "/", x(58) + "/y", x(58) + "//", x(56) + "/", x(56) + "/y", x(56) + "/y/y", "/" + x(58), "y/" + x(58), "z/" + x(58), x(59), x(60), "a/b/c/d", "a/b/c/d/e/", "a/b/c/d/e/f", "a/b/c/d/e/z", "a/b/c/d/e", "////", "/////", "a/z/z/z/e", "a/z/z/z/e/z", "z/z/z/z/z", "z/z/z/z/z/z", "z/z/z/z/z/f", "/////f", "/////z", "a/z/z/z/e/f", "z/z/z/z/z/", "a/z/z/z/e/"}
	rows := matched(filters, names)
	for _, n := range names {
		if e := topic.Name(n); e != api.OK {
			t.Fatalf("Name(%q) is %d", n, e)
		}
	}
	for _, a := range filters {
		for _, b := range filters {
			want := isWithin(rows[b], rows[a])
			if got, e := topic.Covers(a, b); e != api.OK || got != want {
				t.Errorf("Covers(%q, %q) is %t %d, must be %t", a, b, got, e, want)
			}
		}
	}
}

func TestB2CoversItselfAndOnAndOn(t *testing.T) {
	filters := made(3, []string{"", "a", "+", "#"}, topic.Filter)
	covers := func(a, b string) bool {
		got, e := topic.Covers(a, b)
		return got && e == api.OK
	}
	for _, a := range filters {
		if !covers(a, a) {
			t.Errorf("%q does not cover itself", a)
		}
		for _, b := range filters {
			if !covers(a, b) {
				continue
			}
			for _, c := range filters {
				if covers(b, c) && !covers(a, c) {
					t.Errorf("%q covers %q, this %q, but the first one not the last one", a, b, c)
				}
			}
		}
	}
}

func TestP1NothingPanics(t *testing.T) {
	defer func() {
		if r := recover(); r != nil {
			t.Fatalf("panic: %v", r)
		}
	}()
	texts := []string{"", "/", "//////////", "#", "+", "#/#", "+#+", "\x00", "\xff\xfe", "\n", "a/b", strings.Repeat("/", 60), strings.Repeat("/", 61), strings.Repeat("+/", 30), strings.Repeat("#", 60), x(1000)}
	for _, a := range texts {
		topic.Name(a)
		topic.Filter(a)
		for _, b := range texts {
			if got, e := topic.Match(a, b); e != api.OK && got {
				t.Errorf("Match(%.20q, %.20q) is true %d", a, b, e)
			}
			if got, e := topic.Covers(a, b); e != api.OK && got {
				t.Errorf("Covers(%.20q, %.20q) is true %d", a, b, e)
			}
		}
	}
}

// What is handed in is only read (P2), and no call is seen by a later one (P3).
func TestP2AndP3OneAnswerForOneQuestion(t *testing.T) {
	filters := made(3, []string{"a", "+", "#"}, topic.Filter)
	ask := func() (out []bool) {
		for _, a := range filters {
			for _, b := range filters {
				m, _ := topic.Match(a, "a/a")
				c, _ := topic.Covers(a, b)
				out = append(out, m, c, topic.Name(b) == api.OK)
			}
		}
		return out
	}
	held := append([]string(nil), filters...)
	first := ask()
	topic.Name(x(61))
	topic.Filter("a/#/b")
	topic.Match("b/#", "b/c")
	topic.Covers("#", "b/#")
	for i, again := range ask() {
		if again != first[i] {
			t.Fatalf("answer %d was %t and is %t", i, first[i], again)
		}
	}
	for i := range filters {
		if filters[i] != held[i] {
			t.Errorf("%q became %q", held[i], filters[i])
		}
	}
}

func TestP4GreatTextsAreTooMany(t *testing.T) {
	for _, great := range []string{x(1 << 26), strings.Repeat("/", 1<<26), strings.Repeat("+/", 1<<25), strings.Repeat(" ", 1<<26)} {
		if e := topic.Name(great); e != api.ErrMany {
			t.Errorf("Name is %d", e)
		}
		if e := topic.Filter(great); e != api.ErrMany {
			t.Errorf("Filter is %d", e)
		}
		if got, e := topic.Match("#", great); got || e != api.ErrMany {
			t.Errorf("Match is %t %d", got, e)
		}
		if got, e := topic.Covers("#", great); got || e != api.ErrMany {
			t.Errorf("Covers is %t %d", got, e)
		}
	}
}
