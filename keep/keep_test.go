package keep_test

import (
	"fmt"
	"math"
	"reflect"
	"slices"
	"sort"
	"strings"
	"testing"
	"unsafe"

	"dragoman/api"
	"dragoman/keep"
	"dragoman/topic"
)

func x(n int) string { return strings.Repeat("x", n) }

func kept(name, payload string, version int) api.Kept {
	return api.Kept{Topic: name, Payload: payload, Version: version}
}

func list(all ...api.Kept) []api.Kept { return all }

// several: a right list of so many, by topics "k", "kk" and so on.
func several(n int) []api.Kept {
	var all []api.Kept
	for i := range n {
		all = append(all, kept(strings.Repeat("k", i+1), "v", i+1))
	}
	return all
}

// some that are right, with topics that filters tell apart.
func some() []api.Kept {
	return list(kept("/", "8", 1), kept("/a", "9", 5), kept("a", "4", 1), kept("a/b", "5", 7), kept("a/b/c", "7", 2), kept("a/c", "6", api.MaxSeq), kept("c", "3", 2))
}

// isSame: are two lists the same? (An empty one may be nil or not.)
func isSame(a, b []api.Kept) bool {
	return slices.Equal(a, b)
}

type spoiled struct {
	l    []api.Kept
	want api.Errno
}

// wrong lists, and what is said of them.
func wrong() []spoiled {
	good := kept("a", "p", 1)
	return []spoiled{
		{make([]api.Kept, api.MaxKept+1), api.ErrMany}, // named ahead of what is wrong with each
		{several(api.MaxKept + 1), api.ErrMany},
		{list(kept("", "p", 1)), api.ErrForm},
		{list(kept("#", "p", 1)), api.ErrForm},
		{list(kept("a/+", "p", 1)), api.ErrForm},
		{list(kept("a b", "p", 1)), api.ErrForm},
		{list(kept("\x7f", "p", 1)), api.ErrForm},
		{list(kept(x(61), "p", 1)), api.ErrMany},
		{list(kept("a/b/c/d/e/f/g", "p", 1)), api.ErrMany},
		{list(kept(x(61), "", 0)), api.ErrMany}, // the topic is told first
		{list(kept("#", x(201), 0)), api.ErrForm},
		{list(kept("a", "", 1)), api.ErrForm},
		{list(kept("a", "", 0)), api.ErrForm}, // ahead of Version
		{list(kept("a", x(201), 1)), api.ErrMany},
		{list(kept("a", x(201), 0)), api.ErrMany},
		{list(kept("a", "p", 0)), api.ErrRange},
		{list(kept("a", "p", -1)), api.ErrRange},
		{list(kept("a", "p", math.MinInt)), api.ErrRange},
		{list(kept("a", "p", api.MaxSeq+1)), api.ErrRange},
		{list(kept("a", "p", math.MaxInt)), api.ErrRange},
		{list(good, good), api.ErrState},
		{list(good, kept("a", "q", 2)), api.ErrState},
		{list(kept("b", "p", 1), good), api.ErrState},
		{list(kept("a/b", "p", 1), good), api.ErrState},                  // a beginning stands ahead
		{list(good, kept("A", "p", 1)), api.ErrState},                    // by bytes
		{list(kept("a/b", "p", 1), kept("a!b", "p", 1)), api.ErrState},   // not by levels: ! stands ahead of /
		{list(good, kept("c", "p", 1), kept("b", "p", 1)), api.ErrState}, // ahead is the next one ahead
		{list(good, kept("c", "p", 1), kept("a", "p", 1), kept("d", "p", 1)), api.ErrState},
		{list(kept("b", "p", 1), kept("a", "p", 0)), api.ErrRange}, // ahead of order, of one
		{list(kept("b", "p", 1), kept("a", "", 1)), api.ErrForm},
		{list(kept("b", "p", 1), kept("", "p", 1)), api.ErrForm},
		{list(kept("b", "p", 1), kept("a", x(201), 1)), api.ErrMany},
		{list(kept("b", "p", 0), kept("", "", 1)), api.ErrRange}, // one by one: the first one tells
		{list(good, good, kept("", "", 0)), api.ErrState},
		{list(kept("a", x(201), 1), kept("", "p", 1)), api.ErrMany},
		{list(good, kept("b", "", 1), kept("c", "p", 0), kept("b", "p", 1)), api.ErrForm},
		{append(several(api.MaxKept-1), kept(strings.Repeat("k", 16), "v", 0)), api.ErrRange}, // the last one too
		{append(several(api.MaxKept-1), kept("k", "v", 1)), api.ErrState},
	}
}

func TestH1Check(t *testing.T) {
	for _, l := range [][]api.Kept{
		nil,
		{},
		some(),
		list(kept("a", "p", 1)),
		list(kept("a", "p", api.MaxSeq)),
		list(kept("a", x(200), 1)),
		list(kept("a", "\x00", 1)),
		list(kept(x(60), "p", 1)),
		list(kept("a/b/c/d/e/f", "p", 1)),
		list(kept("/", "p", 1)),
		list(kept("a", "p", 9), kept("b", "p", 1)), // topics rise, not versions
		list(kept("a", "p", 1), kept("a/", "p", 1), kept("a/b", "p", 1), kept("aa", "p", 1)),
		list(kept("a!b", "p", 1), kept("a/b", "p", 1)),
		list(kept("!", "p", 1), kept("A", "p", 1), kept("a", "p", 1), kept("~", "p", 1)),
		several(api.MaxKept),
	} {
		if e := keep.Check(l); e != api.OK {
			t.Errorf("Check(%v) is %d", l, e)
		}
	}
	for _, c := range wrong() {
		if e := keep.Check(c.l); e != c.want {
			t.Errorf("Check(%v) is %d, must be %d", c.l, e, c.want)
		}
	}
}

// What is wrong with a list is told ahead of all else.
func TestH1WrongListsAreTold(t *testing.T) {
	for _, c := range wrong() {
		for _, name := range []string{"a", "zz", "", "#", "a/+", x(61)} {
			for _, payload := range []string{"", "p", x(201)} {
				if l, e := keep.Put(c.l, name, payload); len(l) != 0 || e != c.want {
					t.Errorf("Put(%v, %q, %q) is %v %d, must be %d", c.l, name, payload, l, e, c.want)
				}
			}
			if k, e := keep.Get(c.l, name); k != (api.Kept{}) || e != c.want {
				t.Errorf("Get(%v, %q) is %v %d, must be %d", c.l, name, k, e, c.want)
			}
			if l, e := keep.List(c.l, name); len(l) != 0 || e != c.want {
				t.Errorf("List(%v, %q) is %v %d, must be %d", c.l, name, l, e, c.want)
			}
		}
	}
}

func TestH1Put(t *testing.T) {
	a, b, c := kept("a", "1", 4), kept("b", "2", 5), kept("c", "3", 6)
	for _, d := range []struct {
		l             []api.Kept
		name, payload string
		want          []api.Kept
	}{
		{nil, "a", "p", list(kept("a", "p", 1))},
		{list(), "a/b/c/d/e/f", x(200), list(kept("a/b/c/d/e/f", x(200), 1))},
		{nil, x(60), "\x00\xff", list(kept(x(60), "\x00\xff", 1))},
		{list(a), "a", "p", list(kept("a", "p", 5))},
		{list(a), "a", "1", list(kept("a", "1", 5))}, // the same payload is a version too
		{list(b), "a", "p", list(kept("a", "p", 1), b)},
		{list(a), "b", "p", list(a, kept("b", "p", 1))},
		{list(a, c), "b", "p", list(a, kept("b", "p", 1), c)},
		{list(a, b, c), "a", "p", list(kept("a", "p", 5), b, c)},
		{list(a, b, c), "b", "p", list(a, kept("b", "p", 6), c)},
		{list(a, b, c), "c", "p", list(a, b, kept("c", "p", 7))},
		{list(a, b), "a/b", "p", list(a, kept("a/b", "p", 1), b)},
		{list(kept("a/b", "1", 1)), "a!b", "p", list(kept("a!b", "p", 1), kept("a/b", "1", 1))},
		{list(kept("a/b", "1", 1)), "a", "p", list(kept("a", "p", 1), kept("a/b", "1", 1))},
		{list(kept("a", "1", 1)), "A", "p", list(kept("A", "p", 1), kept("a", "1", 1))},
		{list(kept("a", "1", api.MaxSeq-1)), "a", "p", list(kept("a", "p", api.MaxSeq))},
		{list(kept("a", "1", api.MaxSeq), b), "a", "p", list(kept("a", "p", api.MaxSeq), b)}, // it stays
		{list(a, b, c), "a", "", list(b, c)},
		{list(a, b, c), "b", "", list(a, c)},
		{list(a, b, c), "c", "", list(a, b)},
		{list(a), "a", "", nil},
		{list(kept("a", "1", api.MaxSeq)), "a", "", nil},
		{list(a, c), "b", "", list(a, c)}, // it was not kept
		{list(a), "a/b", "", list(a)},
		{nil, "a", "", nil},
		{several(api.MaxKept - 1), strings.Repeat("k", 16), "v", append(several(api.MaxKept-1), kept(strings.Repeat("k", 16), "v", 1))},
		{several(api.MaxKept), "k", "w", append(list(kept("k", "w", 2)), several(api.MaxKept)[1:]...)}, // no more than there were
		{several(api.MaxKept), "k", "", several(api.MaxKept)[1:]},
		{several(api.MaxKept), "no", "", several(api.MaxKept)},
	} {
		if l, e := keep.Put(d.l, d.name, d.payload); !isSame(l, d.want) || e != api.OK {
			t.Errorf("Put(%v, %q, %q) is %v %d, must be %v", d.l, d.name, d.payload, l, e, d.want)
		}
	}
}

// What was kept no more begins anew.
func TestH1PutAnew(t *testing.T) {
	var l []api.Kept
	for _, payload := range []string{"1", "2", "3", "", "4"} {
		l, _ = keep.Put(l, "a", payload)
	}
	if want := list(kept("a", "4", 1)); !isSame(l, want) {
		t.Errorf("it is %v, must be %v", l, want)
	}
}

func TestH1PutErrors(t *testing.T) {
	for _, c := range []struct {
		l             []api.Kept
		name, payload string
		want          api.Errno
	}{
		{some(), "", "p", api.ErrForm},
		{some(), "#", "p", api.ErrForm},
		{some(), "a/+", "p", api.ErrForm},
		{some(), "a b", "p", api.ErrForm},
		{nil, "\xff", "p", api.ErrForm},
		{some(), x(61), "p", api.ErrMany},
		{some(), "a/b/c/d/e/f/g", "p", api.ErrMany},
		{some(), "", "", api.ErrForm}, // of what goes too
		{some(), "+", "", api.ErrForm},
		{some(), x(61), "", api.ErrMany},
		{some(), "", x(201), api.ErrForm}, // ahead of the payload
		{some(), "#", x(201), api.ErrForm},
		{some(), "a", x(201), api.ErrMany},
		{some(), "zz", x(201), api.ErrMany},
		{nil, "a", x(201), api.ErrMany},
		{several(api.MaxKept), "k", x(201), api.ErrMany},
		{several(api.MaxKept), "a", "p", api.ErrMany}, // ahead of all, among them, behind them
		{several(api.MaxKept), "kk!", "p", api.ErrMany},
		{several(api.MaxKept), "z", "p", api.ErrMany},
		{several(api.MaxKept), "#", "p", api.ErrForm},
	} {
		if l, e := keep.Put(c.l, c.name, c.payload); len(l) != 0 || e != c.want {
			t.Errorf("Put(%v, %q, %q) is %v %d, must be %d", c.l, c.name, c.payload, l, e, c.want)
		}
	}
}

func TestH1Get(t *testing.T) {
	for _, k := range some() {
		if got, e := keep.Get(some(), k.Topic); got != k || e != api.OK {
			t.Errorf("Get(%q) is %v %d, must be %v", k.Topic, got, e, k)
		}
	}
	for _, c := range []struct {
		l    []api.Kept
		name string
		want api.Errno
	}{
		{nil, "a", api.ErrNone},
		{some(), "b", api.ErrNone},
		{some(), "A", api.ErrNone},
		{some(), "a/", api.ErrNone},
		{some(), "a/b/", api.ErrNone},
		{some(), "a/b/c/d", api.ErrNone},
		{some(), "//", api.ErrNone},
		{some(), x(60), api.ErrNone},
		{some(), "", api.ErrForm},
		{some(), "+", api.ErrForm},
		{some(), "#", api.ErrForm},
		{some(), "a/#", api.ErrForm},
		{some(), "a b", api.ErrForm},
		{nil, "#", api.ErrForm}, // ahead of ErrNone
		{some(), x(61), api.ErrMany},
		{nil, "a/b/c/d/e/f/g", api.ErrMany},
	} {
		if k, e := keep.Get(c.l, c.name); k != (api.Kept{}) || e != c.want {
			t.Errorf("Get(%v, %q) is %v %d, must be %d", c.l, c.name, k, e, c.want)
		}
	}
}

func TestH1List(t *testing.T) {
	for filter, want := range map[string]string{
		"#":           "/ /a a a/b a/b/c a/c c",
		"+/#":         "/ /a a a/b a/b/c a/c c",
		"+":           "a c",
		"+/+":         "/ /a a/b a/c",
		"+/+/#":       "/ /a a/b a/b/c a/c",
		"+/+/+":       "a/b/c",
		"a/#":         "a a/b a/b/c a/c",
		"a/+":         "a/b a/c",
		"a/+/#":       "a/b a/b/c a/c",
		"a/b/#":       "a/b a/b/c",
		"a/+/c":       "a/b/c",
		"+/b":         "a/b",
		"+/b/#":       "a/b a/b/c",
		"/#":          "/ /a",
		"/+":          "/ /a",
		"/a":          "/a",
		"a":           "a",
		"a/b":         "a/b",
		"b":           "",
		"A/#":         "",
		"+/+/+/+":     "",
		"a/b/c/d/e/#": "",
		"a/b/c/d/e/f": "",
		x(58) + "/#":  "",
	} {
		l, e := keep.List(some(), filter)
		var names []string
		for _, k := range l {
			names = append(names, k.Topic)
			if !slices.Contains(some(), k) {
				t.Errorf("List(%q) has %v, which is not kept", filter, k)
			}
		}
		if got := strings.Join(names, " "); got != want || e != api.OK {
			t.Errorf("List(%q) is %q %d, must be %q", filter, got, e, want)
		}
	}
	for _, filter := range []string{"#", "a", "+"} {
		if l, e := keep.List(nil, filter); len(l) != 0 || e != api.OK {
			t.Errorf("List of nothing is %v %d", l, e)
		}
	}
	if l, e := keep.List(several(api.MaxKept), "+"); !isSame(l, several(api.MaxKept)) || e != api.OK {
		t.Errorf("List of all that may be is %v %d", l, e)
	}
}

func TestH1ListErrors(t *testing.T) {
	for filter, want := range map[string]api.Errno{
		"": api.ErrForm, "a/#/b": api.ErrForm, "a+": api.ErrForm, "#a": api.ErrForm, "+a/b": api.ErrForm, "a b": api.ErrForm, "\x00": api.ErrForm,
		x(61): api.ErrMany, x(60) + "/#": api.ErrMany, "a/b/c/d/e/f/#": api.ErrMany, "+/+/+/+/+/+/+": api.ErrMany,
	} {
		for _, l := range [][]api.Kept{nil, some(), several(api.MaxKept)} {
			if got, e := keep.List(l, filter); len(got) != 0 || e != want {
				t.Errorf("List(%v, %q) is %v %d, must be %d", l, filter, got, e, want)
			}
		}
	}
}

// draw numbers, the same each time.
type draw uint64

func (d *draw) n(n int) int {
	*d = *d*6364136223846793005 + 1442695040888963407
	return int(uint64(*d) >> 33 % uint64(n))
}

// memory: what is kept, told another way.
type memory map[string]api.Kept

func (m memory) put(name, payload string) api.Errno {
	k, was := m[name]
	switch {
	case topic.Name(name) != api.OK:
		return topic.Name(name)
	case payload == "":
		delete(m, name)
	case !was && len(m) == api.MaxKept:
		return api.ErrMany
	default:
		m[name] = kept(name, payload, k.Version+1)
	}
	return api.OK
}

func (m memory) list(filter string) []api.Kept {
	var all []api.Kept
	for name, k := range m {
		if yes, _ := topic.Match(filter, name); yes {
			all = append(all, k)
		}
	}
	sort.Slice(all, func(i, j int) bool { return all[i].Topic < all[j].Topic })
	return all
}

func TestH2WhatWasPutLastIsGot(t *testing.T) {
	names := []string{"#", "a b"}
	for _, first := range []string{"", "a", "b", "!"} {
		for _, second := range []string{"/", "/a", "/b", "/a/b", "x", "!"} {
			names = append(names, first+second)
		}
	}
	d := draw(1)
	m := memory{}
	var l []api.Kept
	most := 0
	for step := range 4000 {
		name := names[d.n(len(names))]
		payload := strings.Repeat(string(rune('a'+d.n(26))), 1+d.n(3))
		if d.n(6) == 0 {
			payload = ""
		}
		want := m.put(name, payload)
		k, e := keep.Put(l, name, payload)
		if e != want || e != api.OK && len(k) != 0 {
			t.Fatalf("step %d: Put(%v, %q, %q) is %v %d, must be %d", step, l, name, payload, k, e, want)
		}
		if e == api.OK {
			l = k
		}
		most = max(most, len(l))
		if keep.Check(l) != api.OK || !isSame(l, m.list("#")) {
			t.Fatalf("step %d: it is %v, must be %v", step, l, m.list("#"))
		}
		for _, n := range names[2:] { // what was put, and that nothing else is other
			got, e := keep.Get(l, n)
			if k, is := m[n]; got != k || (e == api.OK) != is || !is && e != api.ErrNone {
				t.Fatalf("step %d: Get(%v, %q) is %v %d, must be %v", step, l, n, got, e, k)
			}
		}
		for _, filter := range []string{"a/#", "+", "/+", "+/a/#"} {
			if got, e := keep.List(l, filter); !isSame(got, m.list(filter)) || e != api.OK {
				t.Fatalf("step %d: List(%v, %q) is %v %d", step, l, filter, got, e)
			}
		}
	}
	if most != api.MaxKept {
		t.Errorf("at most %d were kept, meant were %d", most, api.MaxKept)
	}
}

func TestP1NothingPanicsAndErrorsAnswerNothingElse(t *testing.T) {
	defer func() {
		if r := recover(); r != nil {
			t.Fatalf("panic: %v", r)
		}
	}()
	lists := [][]api.Kept{nil, {}, some(), several(api.MaxKept), several(99), make([]api.Kept, 3)}
	for _, c := range wrong() {
		lists = append(lists, c.l)
	}
	hostile := []string{"", "/", "\x00", "#", "+", "a/#", "a", "k", "\xff\xfe", strings.Repeat("/", 99), x(60), x(61), x(1000)}
	for _, l := range lists {
		for _, name := range hostile {
			for _, payload := range hostile {
				got, e := keep.Put(l, name, payload)
				if e != api.OK && len(got) != 0 || e == api.OK && keep.Check(got) != api.OK {
					t.Errorf("Put(%v, %q, %q) is %v %d", l, name, payload, got, e)
				}
			}
			if k, e := keep.Get(l, name); (e == api.OK) == (k == api.Kept{}) {
				t.Errorf("Get(%v, %q) is %v %d", l, name, k, e)
			}
			if got, e := keep.List(l, name); e != api.OK && len(got) != 0 || e == api.OK && keep.Check(got) != api.OK {
				t.Errorf("List(%v, %q) is %v %d", l, name, got, e)
			}
		}
	}
}

func TestP2WhatIsHandedInIsOnlyRead(t *testing.T) {
	for n := range len(some()) + 1 {
		room := some()
		l := room[:n]
		keep.Check(l)
		for _, name := range []string{"!", "/", "a", "a/b", "b", "c", "z"} {
			keep.Put(l, name, "new")
			keep.Put(l, name, "")
			keep.Get(l, name)
			keep.List(l, name)
		}
		keep.List(l, "#")
		keep.List(l, "a/#")
		if !reflect.DeepEqual(room, some()) {
			t.Errorf("of %d it is %v now", n, room)
		}
	}
}

// What is changed behind a call is not seen in its answer, nor the other way.
func TestP2ListsAreNotShared(t *testing.T) {
	for i, call := range []func(l []api.Kept) ([]api.Kept, api.Errno){
		func(l []api.Kept) ([]api.Kept, api.Errno) { return keep.Put(l, "z", "p") },
		func(l []api.Kept) ([]api.Kept, api.Errno) { return keep.Put(l, "a", "p") },
		func(l []api.Kept) ([]api.Kept, api.Errno) { return keep.Put(l, "a", "") },
		func(l []api.Kept) ([]api.Kept, api.Errno) { return keep.Put(l, "no", "") },
		func(l []api.Kept) ([]api.Kept, api.Errno) { return keep.List(l, "#") },
		func(l []api.Kept) ([]api.Kept, api.Errno) { return keep.List(l, "+/#") },
	} {
		l := append(make([]api.Kept, 0, 40), some()...)
		got, e := call(l)
		was := fmt.Sprint(got)
		for j := range l {
			l[j] = kept("changed", "changed", 9)
		}
		if e != api.OK || fmt.Sprint(got) != was {
			t.Errorf("call %d: it was %s and is %v %d", i, was, got, e)
		}
		handed := some()
		got, _ = call(handed)
		for j := range got {
			got[j] = kept("changed", "changed", 9)
		}
		if !isSame(handed, some()) {
			t.Errorf("call %d: what was handed in is %v now", i, handed)
		}
	}
}

// within: does a text lie in the memory of another one?
func within(part, all string) bool {
	if part == "" || all == "" {
		return false
	}
	at := uintptr(unsafe.Pointer(unsafe.StringData(part)))
	from := uintptr(unsafe.Pointer(unsafe.StringData(all)))
	return at >= from && at < from+uintptr(len(all))
}

func texts(l ...api.Kept) []string {
	var all []string
	for _, k := range l {
		all = append(all, k.Topic, k.Payload)
	}
	return all
}

func TestP2AnswersAreNewMemory(t *testing.T) {
	l := list(kept(x(3), x(4), 1), kept(x(5), x(6), 1))
	name, payload := x(4), x(7)
	handed := append(texts(l...), name, payload)
	a, _ := keep.Put(l, name, payload)
	b, _ := keep.Put(l, name, "")
	c, _ := keep.Put(l, l[0].Topic, l[1].Payload)
	k, _ := keep.Get(l, l[1].Topic)
	d, _ := keep.List(l, "#")
	for _, got := range texts(slices.Concat(a, b, c, d, list(k))...) {
		for _, in := range handed {
			if within(got, in) {
				t.Errorf("%q is a piece of what was handed in, %q", got, in)
			}
		}
	}
}

func TestP2NilAndEmptyListsAreOne(t *testing.T) {
	empty := make([]api.Kept, 0, 5)
	if keep.Check(empty) != api.OK || keep.Check(nil) != api.OK {
		t.Errorf("Check is %d and %d", keep.Check(empty), keep.Check(nil))
	}
	a, e := keep.Put(empty, "a", "p")
	b, f := keep.Put(nil, "a", "p")
	if !isSame(a, b) || e != f {
		t.Errorf("Put is %v %d and %v %d", a, e, b, f)
	}
	if _, e := keep.Get(empty, "a"); e != api.ErrNone {
		t.Errorf("Get is %d", e)
	}
	if l, e := keep.List(empty, "#"); len(l) != 0 || e != api.OK {
		t.Errorf("List is %v %d", l, e)
	}
}

func TestP3OneAnswerForOneQuestion(t *testing.T) {
	ask := func() string {
		a, e1 := keep.Put(some(), "a", "p")
		b, e2 := keep.Put(some(), "a", "")
		k, e3 := keep.Get(some(), "a/b")
		l, e4 := keep.List(some(), "a/#")
		return fmt.Sprint(a, b, k, l, e1, e2, e3, e4, keep.Check(some()))
	}
	first := ask()
	for i := range 100 {
		keep.Put(several(i%18), "a", x(i))
		keep.Put(some(), x(i), "")
		keep.Get(several(i%18), "kk")
		keep.List(several(i%18), x(i))
		if again := ask(); again != first {
			t.Fatalf("it was %s and is %s", first, again)
		}
	}
}

func TestP4GreatThings(t *testing.T) {
	great := strings.Repeat("/", 8<<20)
	for _, l := range [][]api.Kept{make([]api.Kept, 1<<20), list(kept(great, "p", 1)), list(kept("a", great, 1))} {
		if e := keep.Check(l); e != api.ErrMany {
			t.Errorf("Check of great things is %d", e)
		}
	}
	if l, e := keep.Put(some(), great, "p"); len(l) != 0 || e != api.ErrMany {
		t.Errorf("Put of a great topic is %d", e)
	}
	if l, e := keep.Put(some(), "a", great); len(l) != 0 || e != api.ErrMany {
		t.Errorf("Put of a great payload is %d", e)
	}
	if _, e := keep.Get(some(), great); e != api.ErrMany {
		t.Errorf("Get of a great topic is %d", e)
	}
	if _, e := keep.List(some(), great); e != api.ErrMany {
		t.Errorf("List of a great filter is %d", e)
	}
}
