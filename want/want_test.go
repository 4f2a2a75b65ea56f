package want_test

import (
	"fmt"
	"math"
	"reflect"
	"slices"
	"sort"
	"strings"
	"testing"
	"unsafe"

	"dragoman/api"
	"dragoman/topic"
	"dragoman/want"
)

func x(n int) string { return strings.Repeat("x", n) }

func ask(filter string, qos int) api.Ask { return api.Ask{Filter: filter, Qos: qos} }

func wish(client, filter string, qos int) api.Want {
	return api.Want{Client: client, Ask: ask(filter, qos)}
}

func list(all ...api.Want) []api.Want { return all }

func readers(all ...api.Reader) []api.Reader { return all }

// several: a right list of so many, of client "k", by filters "k", "kk" and so on.
func several(n int) []api.Want {
	var all []api.Want
	for i := range n {
		all = append(all, wish("k", strings.Repeat("k", i+1), i%2))
	}
	return all
}

// some that are right, of clients that want the same and other things.
func some() []api.Want {
	return list(wish("ann", "#", 0), wish("ann", "a/+", 1), wish("bob", "a/#", 0), wish("bob", "a/b", 1), wish("bob", "c", 0), wish("cy", "+/b", 0), wish("dan", "+", 1), wish("dan", "a", 0))
}

type spoiled struct {
	l    []api.Want
	want api.Errno
}

// wrong lists, and what is said of them.
func wrong() []spoiled {
	good := wish("b", "f", 1)
	return []spoiled{
		{make([]api.Want, api.MaxWants+1), api.ErrMany}, // named ahead of what is wrong with each
		{several(api.MaxWants + 1), api.ErrMany},
		{list(wish("", "f", 0)), api.ErrForm},
		{list(wish(x(21), "f", 0)), api.ErrForm}, // no name: not ErrMany
		{list(wish(x(21), x(61), 2)), api.ErrForm},
		{list(wish(" ", "f", 0)), api.ErrForm},
		{list(wish("a b", "f", 0)), api.ErrForm},
		{list(wish("a\x7f", "f", 0)), api.ErrForm},
		{list(wish("\x00", "f", 0)), api.ErrForm},
		{list(wish("\xc3\xa9", "f", 0)), api.ErrForm},
		{list(wish("", x(61), 0)), api.ErrForm}, // the name ahead of the filter
		{list(wish("a", "", 0)), api.ErrForm},
		{list(wish("a", "a+", 0)), api.ErrForm},
		{list(wish("a", "#/a", 0)), api.ErrForm},
		{list(wish("a", "a b", 0)), api.ErrForm},
		{list(wish("a", x(61), 0)), api.ErrMany},
		{list(wish("a", "a/b/c/d/e/f/#", 0)), api.ErrMany},
		{list(wish("a", x(61), 2)), api.ErrMany}, // the filter ahead of Qos
		{list(wish("a", "", 2)), api.ErrForm},
		{list(wish("a", "f", 2)), api.ErrRange},
		{list(wish("a", "f", -1)), api.ErrRange},
		{list(wish("a", "f", api.Failed)), api.ErrRange},
		{list(wish("a", "f", math.MaxInt)), api.ErrRange},
		{list(wish("a", "f", math.MinInt)), api.ErrRange},
		{list(good, good), api.ErrState},
		{list(good, wish("b", "f", 0)), api.ErrState}, // by client and filter, not by Qos
		{list(wish("b", "f", 0), good), api.ErrState},
		{list(good, wish("a", "g", 0)), api.ErrState},
		{list(good, wish("b", "e", 0)), api.ErrState},
		{list(good, wish("B", "g", 0)), api.ErrState},                     // by bytes
		{list(wish("bb", "f", 0), wish("b", "g", 0)), api.ErrState},       // a beginning stands ahead
		{list(wish("b", "f/g", 0), wish("b", "f", 0)), api.ErrState},      // of a filter too
		{list(wish("b", "f/g", 0), wish("b", "f!g", 0)), api.ErrState},    // not by levels
		{list(wish("b", "z", 0), wish("bz", "a", 0), good), api.ErrState}, // ahead is the next one ahead
		{list(good, wish("c", "f", 0), wish("b", "g", 0), wish("d", "f", 0)), api.ErrState},
		{list(good, wish("a", "f", 2)), api.ErrRange}, // ahead of order, of one
		{list(good, wish("a", x(61), 0)), api.ErrMany},
		{list(good, wish("", "f", 0)), api.ErrForm},
		{list(wish("b", "f", 2), wish("", "", 0)), api.ErrRange}, // one by one: the first one tells
		{list(wish("b", x(61), 0), wish("", "", 0)), api.ErrMany},
		{list(good, good, wish("", "", 0)), api.ErrState},
		{list(good, wish("c", "+x", 0), wish("d", "f", 2), wish("c", "f", 0)), api.ErrForm},
		{append(several(api.MaxWants-1), wish("z", "f", 2)), api.ErrRange}, // the last one too
		{append(several(api.MaxWants-1), wish("k", "k", 0)), api.ErrState},
	}
}

func TestI1Check(t *testing.T) {
	for _, l := range [][]api.Want{
		nil,
		{},
		some(),
		list(wish("a", "f", 0)),
		list(wish("a", "f", 1)),
		list(wish(x(20), x(60), 1)),
		list(wish("!~", "#", 1)), // bytes 33 and 126
		list(wish("+/#", "+/#", 1)),
		list(wish("a", "a/b/c/d/e/#", 1)),
		list(wish("a", "z", 1), wish("b", "a", 0)), // by client first
		list(wish("a", "f", 1), wish("a", "f/", 0), wish("a", "f/g", 0), wish("a", "ff", 0)),
		list(wish("a", "f!g", 0), wish("a", "f/g", 0)),
		list(wish("B", "f", 0), wish("a", "f", 0), wish("aa", "f", 0), wish("b", "f", 0)),
		several(api.MaxWants),
	} {
		if e := want.Check(l); e != api.OK {
			t.Errorf("Check(%v) is %d", l, e)
		}
	}
	for _, c := range wrong() {
		if e := want.Check(c.l); e != c.want {
			t.Errorf("Check(%v) is %d, must be %d", c.l, e, c.want)
		}
	}
}

func TestI1EachByteOfAName(t *testing.T) {
	for c := range 256 {
		is := api.ErrForm
		if c >= 33 && c <= 126 {
			is = api.OK
		}
		for _, client := range []string{string([]byte{byte(c)}), string([]byte{byte(c), 'b'}), string([]byte{'a', byte(c)})} {
			if e := want.Check(list(wish(client, "f", 0))); e != is {
				t.Errorf("Check of client %q is %d, must be %d", client, e, is)
			}
			if _, e := want.Add(nil, client, ask("f", 0)); e != is {
				t.Errorf("Add of client %q is %d, must be %d", client, e, is)
			}
		}
	}
}

// What is wrong with a list is told ahead of all else.
func TestI1WrongListsAreTold(t *testing.T) {
	for _, c := range wrong() {
		for _, client := range []string{"b", "zz", "", x(21)} {
			for _, text := range []string{"f", "", "#", "a+", x(61)} {
				for _, qos := range []int{0, 1, 2} {
					if l, e := want.Add(c.l, client, ask(text, qos)); len(l) != 0 || e != c.want {
						t.Errorf("Add(%v, %q, %q, %d) is %v %d, must be %d", c.l, client, text, qos, l, e, c.want)
					}
				}
				if l, e := want.Drop(c.l, client, text); len(l) != 0 || e != c.want {
					t.Errorf("Drop(%v, %q, %q) is %v %d, must be %d", c.l, client, text, l, e, c.want)
				}
				if r, e := want.Readers(c.l, text); len(r) != 0 || e != c.want {
					t.Errorf("Readers(%v, %q) is %v %d, must be %d", c.l, text, r, e, c.want)
				}
			}
			if l, e := want.Leave(c.l, client); len(l) != 0 || e != c.want {
				t.Errorf("Leave(%v, %q) is %v %d, must be %d", c.l, client, l, e, c.want)
			}
		}
	}
}

func TestI1Add(t *testing.T) {
	a, b, c := wish("a", "f", 0), wish("b", "f", 1), wish("c", "f", 0)
	for _, d := range []struct {
		l      []api.Want
		client string
		ask    api.Ask
		want   []api.Want
	}{
		{nil, "a", ask("f", 0), list(a)},
		{list(), x(20), ask(x(60), 1), list(wish(x(20), x(60), 1))},
		{nil, "!~", ask("a/b/c/d/e/#", 1), list(wish("!~", "a/b/c/d/e/#", 1))},
		{list(b), "a", ask("f", 0), list(a, b)},
		{list(a), "b", ask("f", 1), list(a, b)},
		{list(a, c), "b", ask("f", 1), list(a, b, c)},
		{list(a, b, c), "a", ask("f", 1), list(wish("a", "f", 1), b, c)}, // in its place
		{list(a, b, c), "b", ask("f", 0), list(a, wish("b", "f", 0), c)}, // by the last Qos, not the greatest
		{list(a, b, c), "c", ask("f", 0), list(a, b, c)},
		{list(a, b, c), "b", ask("e", 0), list(a, wish("b", "e", 0), b, c)}, // of one client by filter
		{list(a, b, c), "b", ask("g", 0), list(a, b, wish("b", "g", 0), c)},
		{list(a, b, c), "b", ask("f/g", 0), list(a, b, wish("b", "f/g", 0), c)},
		{list(wish("b", "f/g", 0)), "b", ask("f", 0), list(wish("b", "f", 0), wish("b", "f/g", 0))},
		{list(wish("b", "f/g", 0)), "b", ask("f!g", 0), list(wish("b", "f!g", 0), wish("b", "f/g", 0))},
		{list(a, b), "aa", ask("f", 0), list(a, wish("aa", "f", 0), b)},
		{list(a, b), "B", ask("f", 0), list(wish("B", "f", 0), a, b)},
		{list(wish("b", "#", 1)), "b", ask("a", 0), list(wish("b", "#", 1), wish("b", "a", 0))}, // what covers is another one
		{several(api.MaxWants - 1), "z", ask("f", 0), append(several(api.MaxWants-1), wish("z", "f", 0))},
		{several(api.MaxWants), "k", ask("k", 1), append(list(wish("k", "k", 1)), several(api.MaxWants)[1:]...)}, // no more than there were
	} {
		if l, e := want.Add(d.l, d.client, d.ask); !slices.Equal(l, d.want) || e != api.OK {
			t.Errorf("Add(%v, %q, %v) is %v %d, must be %v", d.l, d.client, d.ask, l, e, d.want)
		}
	}
}

func TestI1AddErrors(t *testing.T) {
	for _, c := range []struct {
		l      []api.Want
		client string
		ask    api.Ask
		want   api.Errno
	}{
		{some(), "", ask("f", 0), api.ErrForm},
		{some(), x(21), ask("f", 0), api.ErrForm},
		{some(), "a b", ask("f", 0), api.ErrForm},
		{some(), "", ask(x(61), 0), api.ErrForm}, // the name ahead of the filter
		{some(), x(21), ask(x(61), 2), api.ErrForm},
		{some(), "ann", ask("", 0), api.ErrForm},
		{some(), "ann", ask("a+", 0), api.ErrForm},
		{some(), "ann", ask("a/#/b", 0), api.ErrForm},
		{some(), "ann", ask(x(61), 0), api.ErrMany},
		{some(), "ann", ask("a/b/c/d/e/f/g", 0), api.ErrMany},
		{some(), "ann", ask("#a", 2), api.ErrForm}, // the filter ahead of Qos
		{some(), "ann", ask(x(61), 2), api.ErrMany},
		{some(), "ann", ask("#", 2), api.ErrRange},
		{some(), "ann", ask("#", -1), api.ErrRange},
		{nil, "ann", ask("#", math.MinInt), api.ErrRange},
		{several(api.MaxWants), "a", ask("f", 0), api.ErrMany}, // ahead of all, among them, behind them
		{several(api.MaxWants), "k", ask("kk!", 0), api.ErrMany},
		{several(api.MaxWants), "z", ask("k", 0), api.ErrMany},
		{several(api.MaxWants), "z", ask("k", 2), api.ErrRange}, // ahead of too many
		{several(api.MaxWants), "z", ask("+k", 0), api.ErrForm},
		{several(api.MaxWants), "", ask("k", 0), api.ErrForm},
	} {
		if l, e := want.Add(c.l, c.client, c.ask); len(l) != 0 || e != c.want {
			t.Errorf("Add(%v, %q, %v) is %v %d, must be %d", c.l, c.client, c.ask, l, e, c.want)
		}
	}
}

func TestI1Drop(t *testing.T) {
	for i, w := range some() {
		if l, e := want.Drop(some(), w.Client, w.Ask.Filter); !slices.Equal(l, slices.Delete(some(), i, i+1)) || e != api.OK {
			t.Errorf("Drop of %v is %v %d", w, l, e)
		}
	}
	for _, c := range [][2]string{ // there is none: whatever the texts are
		{"ann", "a"}, {"ann", "a/b"}, {"ann", "+/#"}, {"cy", "#"}, {"zed", "#"}, {"an", "#"}, {"annn", "#"}, {"Ann", "#"},
		{"", "#"}, {"", ""}, {"ann", ""}, {"a b", "#"}, {"ann", "a+"}, {"ann", "#/a"}, {x(21), "#"}, {"ann", x(61)}, {"\xff", "\x00"}, {x(999), x(999)},
		{"ann#", ""}, {"an", "n#"},
	} {
		if l, e := want.Drop(some(), c[0], c[1]); !slices.Equal(l, some()) || e != api.OK {
			t.Errorf("Drop(%q, %q) is %v %d", c[0], c[1], l, e)
		}
		if l, e := want.Drop(nil, c[0], c[1]); len(l) != 0 || e != api.OK {
			t.Errorf("Drop of nothing is %v %d", l, e)
		}
	}
	if l, e := want.Drop(several(api.MaxWants), "k", "k"); !slices.Equal(l, several(api.MaxWants)[1:]) || e != api.OK {
		t.Errorf("Drop of all that may be is %v %d", l, e)
	}
}

func TestI1Leave(t *testing.T) {
	for client, stay := range map[string][]api.Want{
		"ann": some()[2:],
		"bob": append(some()[:2], some()[5:]...),
		"cy":  append(some()[:5], some()[6:]...),
		"dan": some()[:6],
		"an":  some(), "annn": some(), "Ann": some(), "zed": some(), "": some(), "#": some(), "a b": some(), "\x00": some(), x(21): some(), x(999): some(),
	} {
		if l, e := want.Leave(some(), client); !slices.Equal(l, stay) || e != api.OK {
			t.Errorf("Leave(%q) is %v %d, must be %v", client, l, e, stay)
		}
		if l, e := want.Leave(nil, client); len(l) != 0 || e != api.OK {
			t.Errorf("Leave of nothing is %v %d", l, e)
		}
	}
	if l, e := want.Leave(several(api.MaxWants), "k"); len(l) != 0 || e != api.OK {
		t.Errorf("Leave of all is %v %d", l, e)
	}
}

func TestI1Readers(t *testing.T) {
	for name, who := range map[string][]api.Reader{
		"a":           readers(api.Reader{Client: "ann"}, api.Reader{Client: "bob"}, api.Reader{Client: "dan", Qos: 1}),
		"a/b":         readers(api.Reader{Client: "ann", Qos: 1}, api.Reader{Client: "bob", Qos: 1}, api.Reader{Client: "cy"}),
		"a/c":         readers(api.Reader{Client: "ann", Qos: 1}, api.Reader{Client: "bob"}),
		"a/":          readers(api.Reader{Client: "ann", Qos: 1}, api.Reader{Client: "bob"}),
		"a/b/c":       readers(api.Reader{Client: "ann"}, api.Reader{Client: "bob"}),
		"b/b":         readers(api.Reader{Client: "ann"}, api.Reader{Client: "cy"}),
		"/b":          readers(api.Reader{Client: "ann"}, api.Reader{Client: "cy"}),
		"c":           readers(api.Reader{Client: "ann"}, api.Reader{Client: "bob"}, api.Reader{Client: "dan", Qos: 1}),
		"C":           readers(api.Reader{Client: "ann"}, api.Reader{Client: "dan", Qos: 1}),
		"/":           readers(api.Reader{Client: "ann"}),
		"c/c":         readers(api.Reader{Client: "ann"}),
		"z/b/c/d/e/f": readers(api.Reader{Client: "ann"}),
		x(60):         readers(api.Reader{Client: "ann"}, api.Reader{Client: "dan", Qos: 1}),
	} {
		if r, e := want.Readers(some(), name); !slices.Equal(r, who) || e != api.OK {
			t.Errorf("Readers(%q) is %v %d, must be %v", name, r, e, who)
		}
		if r, e := want.Readers(nil, name); len(r) != 0 || e != api.OK {
			t.Errorf("Readers of nothing is %v %d", r, e)
		}
	}
	if r, e := want.Readers(several(api.MaxWants), "z"); len(r) != 0 || e != api.OK {
		t.Errorf("Readers of what nobody wants is %v %d", r, e)
	}
}

// The greatest Qos is told, wherever it stands, and of what is for the topic alone.
func TestI1ReadersByTheGreatestQos(t *testing.T) {
	for bits := range 16 {
		qos := func(i int) int { return bits >> i & 1 }
		l := list(wish("a", "#", qos(0)), wish("a", "+", qos(1)), wish("a", "f", qos(2)), wish("a", "g", qos(3)))
		for name, most := range map[string]int{"f": max(qos(0), qos(1), qos(2)), "g": max(qos(0), qos(1), qos(3)), "h": max(qos(0), qos(1)), "f/g": qos(0)} {
			if r, e := want.Readers(l, name); !slices.Equal(r, readers(api.Reader{Client: "a", Qos: most})) || e != api.OK {
				t.Errorf("Readers(%v, %q) is %v %d, must be %d", l, name, r, e, most)
			}
		}
	}
}

func TestI1ReadersRise(t *testing.T) {
	var all []api.Want
	clients := []string{"!", "A", "B", "a", "a!", "aa", "ab", "b", "ba", "c", "d", "e", "f", "g", "h", "i", "j", "z", "zz", "~"}
	var who []api.Reader
	for i, c := range clients {
		all = append(all, wish(c, "#", i%2))
		who = append(who, api.Reader{Client: c, Qos: i % 2})
	}
	for range 50 { // a map is gone through in any order: often enough it would be another one
		if r, e := want.Readers(all, "t"); !slices.Equal(r, who) || e != api.OK {
			t.Fatalf("Readers is %v %d, must be %v", r, e, who)
		}
	}
}

func TestI1ReadersErrors(t *testing.T) {
	for name, is := range map[string]api.Errno{
		"": api.ErrForm, "+": api.ErrForm, "#": api.ErrForm, "a/+": api.ErrForm, "a/#": api.ErrForm, "a b": api.ErrForm, "\x7f": api.ErrForm, "\xff": api.ErrForm,
		x(61): api.ErrMany, "a/b/c/d/e/f/g": api.ErrMany, x(60) + "#": api.ErrMany,
	} {
		for _, l := range [][]api.Want{nil, some(), several(api.MaxWants)} {
			if r, e := want.Readers(l, name); len(r) != 0 || e != is {
				t.Errorf("Readers(%v, %q) is %v %d, must be %d", l, name, r, e, is)
			}
		}
	}
}

// draw numbers, the same each time.
type draw uint64

func (d *draw) n(n int) int {
	*d = *d*6364136223846793005 + 1442695040888963407
	return int(uint64(*d) >> 33 % uint64(n))
}

// memory: who wants what, told another way.
type memory map[[2]string]int

func (m memory) list() []api.Want {
	var all []api.Want
	for k, qos := range m {
		all = append(all, wish(k[0], k[1], qos))
	}
	sort.Slice(all, func(i, j int) bool {
		a, b := all[i], all[j]
		return a.Client < b.Client || a.Client == b.Client && a.Ask.Filter < b.Ask.Filter
	})
	return all
}

// reader: does a client want a topic, and by which Qos?
func (m memory) reader(client, name string) (qos int, is bool) {
	for k, q := range m {
		if yes, _ := topic.Match(k[1], name); yes && k[0] == client {
			qos, is = max(qos, q), true
		}
	}
	return qos, is
}

// turn: one call by chance, of the program and of the memory.
func (m memory) turn(d *draw, l []api.Want, clients, filters []string) ([]api.Want, api.Errno, api.Errno) {
	client, filter, qos := clients[d.n(len(clients))], filters[d.n(len(filters))], d.n(2)
	switch kind := d.n(20); {
	case kind == 0:
		for k := range m {
			if k[0] == client {
				delete(m, k)
			}
		}
		got, e := want.Leave(l, client)
		return got, e, api.OK
	case kind < 5:
		delete(m, [2]string{client, filter})
		got, e := want.Drop(l, client, filter)
		return got, e, api.OK
	}
	got, e := want.Add(l, client, ask(filter, qos))
	if _, was := m[[2]string{client, filter}]; !was && len(m) == api.MaxWants {
		return got, e, api.ErrMany
	}
	m[[2]string{client, filter}] = qos
	return got, e, api.OK
}

func TestI2AClientReadsWhatItWantsAndNothingElse(t *testing.T) {
	clients := []string{"a", "aa", "ann", "bob", "B", "~"}
	filters := []string{"#", "+", "+/#", "+/+", "a", "a/#", "a/+", "a/b", "/", "/#", "b/+", "+/b", "a!b"}
	names := []string{"a", "b", "/", "a/b", "a/c", "b/b", "a/b/c", "/b", "a!b", "c/d/e/f/g/h"}
	d := draw(1)
	m := memory{}
	var l []api.Want
	most := 0
	for step := range 4000 {
		got, e, is := m.turn(&d, l, clients, filters)
		if e != is || e != api.OK && len(got) != 0 {
			t.Fatalf("step %d: of %v it is %v %d, must be %d", step, l, got, e, is)
		}
		if e == api.OK {
			l = got
		}
		most = max(most, len(l))
		if want.Check(l) != api.OK || !slices.Equal(l, m.list()) {
			t.Fatalf("step %d: it is %v, must be %v", step, l, m.list())
		}
		for _, name := range names {
			r, e := want.Readers(l, name)
			who := map[string]int{}
			for _, c := range clients {
				if qos, is := m.reader(c, name); is {
					who[c] = qos
				}
			}
			said := map[string]int{}
			for _, one := range r {
				said[one.Client] = one.Qos
			}
			if e != api.OK || len(said) != len(r) || !reflect.DeepEqual(said, who) {
				t.Fatalf("step %d: Readers(%v, %q) is %v %d, must be %v", step, l, name, r, e, who)
			}
		}
	}
	if most != api.MaxWants {
		t.Errorf("there were at most %d, meant were %d", most, api.MaxWants)
	}
}

func TestP1NothingPanicsAndErrorsAnswerNothingElse(t *testing.T) {
	defer func() {
		if r := recover(); r != nil {
			t.Fatalf("panic: %v", r)
		}
	}()
	lists := [][]api.Want{nil, {}, some(), several(api.MaxWants), several(99), make([]api.Want, 3)}
	for _, c := range wrong() {
		lists = append(lists, c.l)
	}
	hostile := []string{"", "/", "\x00", "#", "+", "a/#", "a", "k", "\xff\xfe", strings.Repeat("/", 99), x(20), x(60), x(61), x(1000)}
	right := func(l []api.Want, e api.Errno) bool {
		return e != api.OK && len(l) == 0 || e == api.OK && want.Check(l) == api.OK
	}
	for _, l := range lists {
		for _, a := range hostile {
			for _, b := range hostile {
				for _, qos := range []int{0, 1, 2, -1, math.MaxInt, math.MinInt} {
					if got, e := want.Add(l, a, ask(b, qos)); !right(got, e) {
						t.Errorf("Add(%v, %q, %q, %d) is %v %d", l, a, b, qos, got, e)
					}
				}
				if got, e := want.Drop(l, a, b); !right(got, e) {
					t.Errorf("Drop(%v, %q, %q) is %v %d", l, a, b, got, e)
				}
			}
			if got, e := want.Leave(l, a); !right(got, e) {
				t.Errorf("Leave(%v, %q) is %v %d", l, a, got, e)
			}
			if got, e := want.Readers(l, a); e != api.OK && len(got) != 0 {
				t.Errorf("Readers(%v, %q) is %v %d", l, a, got, e)
			}
		}
	}
}

func TestP2WhatIsHandedInIsOnlyRead(t *testing.T) {
	for n := range len(some()) + 1 {
		room := some()
		l := room[:n]
		want.Check(l)
		for _, client := range []string{"!", "ann", "bob", "cy", "dan", "z"} {
			for _, filter := range []string{"!", "#", "a", "a/+", "c", "z"} {
				want.Add(l, client, ask(filter, 1))
				want.Drop(l, client, filter)
				want.Readers(l, filter)
			}
			want.Leave(l, client)
		}
		if !reflect.DeepEqual(room, some()) {
			t.Errorf("of %d it is %v now", n, room)
		}
	}
}

// What is changed behind a call is not seen in its answer, nor the other way.
func TestP2ListsAreNotShared(t *testing.T) {
	for i, call := range []func(l []api.Want) ([]api.Want, api.Errno){
		func(l []api.Want) ([]api.Want, api.Errno) { return want.Add(l, "z", ask("z", 1)) },
		func(l []api.Want) ([]api.Want, api.Errno) { return want.Add(l, "ann", ask("#", 1)) },
		func(l []api.Want) ([]api.Want, api.Errno) { return want.Drop(l, "ann", "#") },
		func(l []api.Want) ([]api.Want, api.Errno) { return want.Drop(l, "dan", "a") },
		func(l []api.Want) ([]api.Want, api.Errno) { return want.Drop(l, "no", "a") },
		func(l []api.Want) ([]api.Want, api.Errno) { return want.Leave(l, "dan") },
		func(l []api.Want) ([]api.Want, api.Errno) { return want.Leave(l, "no") },
	} {
		l := append(make([]api.Want, 0, 40), some()...)
		got, e := call(l)
		was := fmt.Sprint(got)
		for j := range l[:cap(l)] {
			l[:cap(l)][j] = wish("changed", "changed", 9)
		}
		if e != api.OK || fmt.Sprint(got) != was {
			t.Errorf("call %d: it was %s and is %v %d", i, was, got, e)
		}
		handed := some()
		got, _ = call(handed)
		for j := range got {
			got[j] = wish("changed", "changed", 9)
		}
		if !slices.Equal(handed, some()) {
			t.Errorf("call %d: what was handed in is %v now", i, handed)
		}
	}
}

// within: does a text lie in the memory of another one?
func within(part, all string) bool {
	if part == "" || all == "" {
		return false
	}
	at := uintptr(unsafe.Pointer(unsafe.StringData(part)))
	from := uintptr(unsafe.Pointer(unsafe.StringData(all)))
	return at >= from && at < from+uintptr(len(all))
}

func texts(l ...api.Want) []string {
	var all []string
	for _, w := range l {
		all = append(all, w.Client, w.Ask.Filter)
	}
	return all
}

func TestP2AnswersAreNewMemory(t *testing.T) {
	l := list(wish(x(3), x(4), 1), wish(x(5), x(6), 1))
	client, filter := x(4), x(7)
	handed := append(texts(l...), client, filter)
	a, _ := want.Add(l, client, ask(filter, 1))
	b, _ := want.Add(l, l[0].Client, ask(l[0].Ask.Filter, 0))
	c, _ := want.Drop(l, client, filter)
	d, _ := want.Leave(l, client)
	got := texts(slices.Concat(a, b, c, d)...)
	r, _ := want.Readers(l, x(6))
	for _, one := range r {
		got = append(got, one.Client)
	}
	if len(got) != 19 {
		t.Fatalf("only %d texts are asked of", len(got))
	}
	for _, g := range got {
		for _, in := range handed {
			if within(g, in) {
				t.Errorf("%q is a piece of what was handed in, %q", g, in)
			}
		}
	}
}

func TestP2NilAndEmptyListsAreOne(t *testing.T) {
	empty := make([]api.Want, 0, 5)
	if want.Check(empty) != api.OK || want.Check(nil) != api.OK {
		t.Errorf("Check is %d and %d", want.Check(empty), want.Check(nil))
	}
	a, e := want.Add(empty, "a", ask("f", 1))
	b, f := want.Add(nil, "a", ask("f", 1))
	if !slices.Equal(a, b) || len(a) != 1 || e != f {
		t.Errorf("Add is %v %d and %v %d", a, e, b, f)
	}
	if l, e := want.Drop(empty, "a", "f"); len(l) != 0 || e != api.OK {
		t.Errorf("Drop is %v %d", l, e)
	}
	if l, e := want.Leave(empty, "a"); len(l) != 0 || e != api.OK {
		t.Errorf("Leave is %v %d", l, e)
	}
	if r, e := want.Readers(empty, "a"); len(r) != 0 || e != api.OK {
		t.Errorf("Readers is %v %d", r, e)
	}
}

func TestP3OneAnswerForOneQuestion(t *testing.T) {
	answer := func() string {
		a, e1 := want.Add(some(), "bob", ask("b", 1))
		b, e2 := want.Drop(some(), "bob", "c")
		c, e3 := want.Leave(some(), "bob")
		r, e4 := want.Readers(some(), "a/b")
		return fmt.Sprint(a, b, c, r, e1, e2, e3, e4, want.Check(some()))
	}
	first := answer()
	for i := range 100 {
		want.Add(several(i%22), "k", ask(x(i), i%3))
		want.Drop(some(), "ann", "#")
		want.Leave(some(), "ann")
		want.Readers(several(i%22), x(i))
		if again := answer(); again != first {
			t.Fatalf("it was %s and is %s", first, again)
		}
	}
}

func TestP4GreatThings(t *testing.T) {
	great := strings.Repeat("/", 8<<20)
	if e := want.Check(make([]api.Want, 1<<20)); e != api.ErrMany {
		t.Errorf("Check of a great list is %d", e)
	}
	if e := want.Check(list(wish(great, "f", 0))); e != api.ErrForm {
		t.Errorf("Check of a great client is %d", e)
	}
	if e := want.Check(list(wish("a", great, 0))); e != api.ErrMany {
		t.Errorf("Check of a great filter is %d", e)
	}
	if l, e := want.Add(some(), great, ask("f", 0)); len(l) != 0 || e != api.ErrForm {
		t.Errorf("Add of a great client is %d", e)
	}
	if l, e := want.Add(some(), "a", ask(great, 0)); len(l) != 0 || e != api.ErrMany {
		t.Errorf("Add of a great filter is %d", e)
	}
	if l, e := want.Drop(some(), great, great); len(l) != len(some()) || e != api.OK {
		t.Errorf("Drop of great texts is %d", e)
	}
	if l, e := want.Leave(some(), great); len(l) != len(some()) || e != api.OK {
		t.Errorf("Leave of a great client is %d", e)
	}
	if r, e := want.Readers(some(), great); len(r) != 0 || e != api.ErrMany {
		t.Errorf("Readers of a great topic is %d", e)
	}
}
