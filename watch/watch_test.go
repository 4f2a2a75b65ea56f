package watch_test

import (
	"fmt"
	"math"
	"slices"
	"strings"
	"testing"
	"unsafe"

	"dragoman/api"
	"dragoman/watch"
)

func x(n int) string { return strings.Repeat("x", n) }

func of(peer int, token, name string, number int) api.Watch {
	return api.Watch{Peer: peer, Token: token, Topic: name, Number: number}
}

func list(all ...api.Watch) []api.Watch { return all }

// several: a right list of so many, of all peers, of topics "s" and "t", as they came.
func several(n int) []api.Watch {
	var all []api.Watch
	for i := range n {
		all = append(all, of(9-i%10, strings.Repeat("k", i/10), []string{"s", "t"}[i%2], i))
	}
	return all
}

// some that are right, and stand in no order but that in which they came.
func some() []api.Watch {
	return list(of(3, "t", "a/b", 7), of(1, "u", "c", 0), of(1, "t", "a/b", api.MaxSeq), of(3, "", "a/b", 1), of(0, "t", "a", 5), of(9, x(8), "a/b/c", 2))
}

type spoiled struct {
	l    []api.Watch
	want api.Errno
}

// wrong lists, and what is said of them.
func wrong() []spoiled {
	good := of(1, "t", "a", 1)
	return []spoiled{
		{make([]api.Watch, api.MaxWatches+1), api.ErrMany}, // named ahead of what is wrong with each
		{several(api.MaxWatches + 1), api.ErrMany},
		{append(several(api.MaxWatches), of(-1, x(9), "", -1)), api.ErrMany},
		{list(of(-1, "t", "a", 1)), api.ErrRange},
		{list(of(10, "t", "a", 1)), api.ErrRange},
		{list(of(math.MaxInt, "t", "a", 1)), api.ErrRange},
		{list(of(math.MinInt, "t", "a", 1)), api.ErrRange},
		{list(of(10, x(9), "", 1)), api.ErrRange}, // the peer ahead of the token
		{list(of(1, x(9), "a", 1)), api.ErrMany},
		{list(of(1, x(9), "", -1)), api.ErrMany}, // the token ahead of the topic
		{list(of(1, "t", "", 1)), api.ErrForm},
		{list(of(1, "t", "#", 1)), api.ErrForm},
		{list(of(1, "t", "a/+", 1)), api.ErrForm},
		{list(of(1, "t", "a b", 1)), api.ErrForm},
		{list(of(1, "t", "\xff", 1)), api.ErrForm},
		{list(of(1, "t", x(61), 1)), api.ErrMany},
		{list(of(1, "t", "a/b/c/d/e/f/g", 1)), api.ErrMany},
		{list(of(1, "t", "", -1)), api.ErrForm}, // the topic ahead of the number
		{list(of(1, "t", x(61), api.MaxSeq+1)), api.ErrMany},
		{list(of(1, "t", "a", -1)), api.ErrRange},
		{list(of(1, "t", "a", api.MaxSeq+1)), api.ErrRange},
		{list(of(1, "t", "a", math.MaxInt)), api.ErrRange},
		{list(of(1, "t", "a", math.MinInt)), api.ErrRange},
		{list(good, good), api.ErrTwice},
		{list(good, of(1, "t", "b", 2)), api.ErrTwice}, // by peer and token alone
		{list(of(1, "", "a", 1), of(1, "", "b", 1)), api.ErrTwice},
		{list(good, of(2, "t", "a", 1), of(1, "u", "a", 1), good), api.ErrTwice},    // any one ahead
		{list(of(2, "t", "a", 1), good, of(1, "u", "a", 1), good), api.ErrTwice},    // not the first one alone
		{list(good, of(1, "t", "", 1)), api.ErrForm},                                // all of one ahead of ErrTwice
		{list(good, of(1, "t", "a", -1)), api.ErrRange},                             // likewise
		{list(good, of(1, x(9), "a", 1), good), api.ErrMany},                        // one by one: the first one tells
		{list(good, good, of(10, x(9), "", 1)), api.ErrTwice},                       // likewise
		{list(good, of(1, "u", "+", 1), of(10, "t", "a", 1)), api.ErrForm},          // likewise
		{append(several(api.MaxWatches-1), of(1, "zz", "a", -1)), api.ErrRange},     // the last one too
		{append(several(api.MaxWatches-1), of(9, "", "other", 1)), api.ErrTwice},    // likewise
		{append(several(api.MaxWatches-1), of(9, x(9), "other", 1)), api.ErrMany},   // likewise
		{append(list(of(1, "t", "#", 1)), several(api.MaxWatches)...), api.ErrMany}, // too many ahead of each
	}
}

func TestK1Check(t *testing.T) {
	for _, l := range [][]api.Watch{
		nil,
		{},
		some(),
		list(of(0, "", "a", 0)),
		list(of(9, x(8), x(60), api.MaxSeq)),
		list(of(1, "\x00\xff #+", "a", 1)), // a token is any bytes
		list(of(1, "t", "a", 1), of(2, "t", "a", 1)),
		list(of(1, "t", "a", 1), of(1, "u", "a", 1)),
		list(of(1, "t", "a", 1), of(1, "", "a", 1), of(1, "tt", "a", 1), of(1, "T", "a", 1)),
		list(of(9, "z", "z", 9), of(0, "a", "a", 0)), // in no order
		list(of(1, "t", "a/b/c/d/e/f", 1)),
		several(api.MaxWatches),
	} {
		if e := watch.Check(l); e != api.OK {
			t.Errorf("Check(%v) is %d", l, e)
		}
	}
	for _, c := range wrong() {
		if e := watch.Check(c.l); e != c.want {
			t.Errorf("Check(%v) is %d, must be %d", c.l, e, c.want)
		}
	}
}

// What is wrong with a list is told ahead of all else.
func TestK1WrongListsAreTold(t *testing.T) {
	for _, c := range wrong() {
		for _, peer := range []int{1, 0, -1, 10} {
			for _, token := range []string{"t", "", x(9)} {
				for _, name := range []string{"a", "", "#", x(61)} {
					if l, e := watch.Add(c.l, peer, token, name); len(l) != 0 || e != c.want {
						t.Errorf("Add(%v, %d, %q, %q) is %v %d, must be %d", c.l, peer, token, name, l, e, c.want)
					}
					if l, told, e := watch.Tell(c.l, name); len(l)+len(told) != 0 || e != c.want {
						t.Errorf("Tell(%v, %q) is %v %v %d, must be %d", c.l, name, l, told, e, c.want)
					}
				}
				if l, e := watch.Cancel(c.l, peer, token); len(l) != 0 || e != c.want {
					t.Errorf("Cancel(%v, %d, %q) is %v %d, must be %d", c.l, peer, token, l, e, c.want)
				}
			}
		}
	}
}

func TestK1Add(t *testing.T) {
	a, b, c := of(5, "t", "a", 7), of(1, "t", "b", 8), of(5, "u", "a", 9)
	full := several(api.MaxWatches)
	for _, d := range []struct {
		l           []api.Watch
		peer        int
		token, name string
		want        []api.Watch
	}{
		{nil, 0, "", "a", list(of(0, "", "a", 1))},
		{list(), 9, x(8), x(60), list(of(9, x(8), x(60), 1))},
		{nil, 1, "\x00\xff", "a/b/c/d/e/f", list(of(1, "\x00\xff", "a/b/c/d/e/f", 1))},
		{list(a, b, c), 0, "a", "a", list(a, b, c, of(0, "a", "a", 1))}, // behind all others
		{list(a, b, c), 1, "u", "b", list(a, b, c, of(1, "u", "b", 1))}, // neither of that peer
		{list(a, b, c), 2, "t", "b", list(a, b, c, of(2, "t", "b", 1))}, // nor by that token
		{list(a, b, c), 5, "t", "z", list(b, c, of(5, "t", "z", 1))},    // in the place of one, behind the others
		{list(a, b, c), 1, "t", "b", list(a, c, of(1, "t", "b", 1))},    // of that topic too: Number 1
		{list(a, b, c), 5, "u", "a", list(a, b, of(5, "u", "a", 1))},
		{several(api.MaxWatches - 1), 1, "z", "a", append(several(api.MaxWatches-1), of(1, "z", "a", 1))},
		{full, 9, "", "z", append(several(api.MaxWatches)[1:], of(9, "", "z", 1))}, // no more than there were
		{full, 8, "k", "z", append(several(api.MaxWatches)[:11], of(8, "k", "z", 1))},
	} {
		if l, e := watch.Add(d.l, d.peer, d.token, d.name); !slices.Equal(l, d.want) || e != api.OK {
			t.Errorf("Add(%v, %d, %q, %q) is %v %d, must be %v", d.l, d.peer, d.token, d.name, l, e, d.want)
		}
	}
}

func TestK1AddErrors(t *testing.T) {
	full := several(api.MaxWatches)
	for _, c := range []struct {
		l           []api.Watch
		peer        int
		token, name string
		want        api.Errno
	}{
		{some(), -1, "t", "a", api.ErrRange},
		{some(), 10, "t", "a", api.ErrRange},
		{some(), math.MaxInt, "t", "a", api.ErrRange},
		{some(), math.MinInt, "t", "a", api.ErrRange},
		{some(), 10, x(9), "", api.ErrRange}, // the peer ahead of the token
		{some(), 1, x(9), "a", api.ErrMany},
		{some(), 1, x(9), "", api.ErrMany}, // the token ahead of the topic
		{some(), 1, "t", "", api.ErrForm},
		{some(), 1, "t", "#", api.ErrForm},
		{some(), 1, "t", "+", api.ErrForm},
		{some(), 1, "t", "a b", api.ErrForm},
		{some(), 1, "t", x(61), api.ErrMany},
		{some(), 1, "t", "a/b/c/d/e/f/g", api.ErrMany},
		{full, 1, "z", "a", api.ErrMany},
		{full, 9, "kk", "s", api.ErrMany},
		{full, 1, "z", "#", api.ErrForm}, // ahead of too many
		{full, 10, "z", "a", api.ErrRange},
	} {
		if l, e := watch.Add(c.l, c.peer, c.token, c.name); len(l) != 0 || e != c.want {
			t.Errorf("Add(%v, %d, %q, %q) is %v %d, must be %d", c.l, c.peer, c.token, c.name, l, e, c.want)
		}
	}
}

func TestK1Cancel(t *testing.T) {
	for i, w := range some() {
		if l, e := watch.Cancel(some(), w.Peer, w.Token); !slices.Equal(l, slices.Delete(some(), i, i+1)) || e != api.OK {
			t.Errorf("Cancel of %v is %v %d", w, l, e)
		}
	}
	for _, c := range []struct {
		peer  int
		token string
	}{{2, "t"}, {1, ""}, {1, "tt"}, {1, "T"}, {3, "u"}, {9, x(7)}, {0, ""}, {0, "\x00"}} {
		if l, e := watch.Cancel(some(), c.peer, c.token); !slices.Equal(l, some()) || e != api.OK {
			t.Errorf("Cancel(%d, %q), that is none, is %v %d", c.peer, c.token, l, e)
		}
		if l, e := watch.Cancel(nil, c.peer, c.token); len(l) != 0 || e != api.OK {
			t.Errorf("Cancel of nothing is %v %d", l, e)
		}
	}
	full := several(api.MaxWatches)
	if l, e := watch.Cancel(full, 9, ""); !slices.Equal(l, full[1:]) || e != api.OK {
		t.Errorf("Cancel of all that may be is %v %d", l, e)
	}
	for _, l := range [][]api.Watch{nil, some(), full} {
		for _, c := range []struct {
			peer  int
			token string
			want  api.Errno
		}{{-1, "t", api.ErrRange}, {10, "t", api.ErrRange}, {math.MaxInt, "t", api.ErrRange}, {-1, x(9), api.ErrRange}, {1, x(9), api.ErrMany}, {0, x(999), api.ErrMany}} {
			if got, e := watch.Cancel(l, c.peer, c.token); len(got) != 0 || e != c.want {
				t.Errorf("Cancel(%v, %d, %q) is %v %d, must be %d", l, c.peer, c.token, got, e, c.want)
			}
		}
	}
}

func TestK1Tell(t *testing.T) {
	for name, places := range map[string][]int{
		"a/b": {0, 2, 3}, "c": {1}, "a": {4}, "a/b/c": {5},
		"b": nil, "a/": nil, "A": nil, "/a": nil, x(60): nil, "a/b/c/d/e/f": nil,
	} {
		want := some()
		var told []api.Watch
		for _, i := range places {
			want[i].Number = []int{8, 1, 0, 2, 6, 3}[i] // behind MaxSeq stands 0
			told = append(told, want[i])
		}
		if l, some, e := watch.Tell(some(), name); !slices.Equal(l, want) || !slices.Equal(some, told) || e != api.OK {
			t.Errorf("Tell(%q) is %v %v %d, must be %v %v", name, l, some, e, want, told)
		}
		if l, some, e := watch.Tell(nil, name); len(l)+len(some) != 0 || e != api.OK {
			t.Errorf("Tell of nothing is %v %v %d", l, some, e)
		}
	}
	for _, l := range [][]api.Watch{nil, some(), several(api.MaxWatches)} {
		for name, is := range map[string]api.Errno{
			"": api.ErrForm, "#": api.ErrForm, "+": api.ErrForm, "a/+": api.ErrForm, "a/#": api.ErrForm, "a b": api.ErrForm, "\xff": api.ErrForm,
			x(61): api.ErrMany, "a/b/c/d/e/f/g": api.ErrMany, "#" + x(60): api.ErrMany,
		} {
			if got, told, e := watch.Tell(l, name); len(got)+len(told) != 0 || e != is {
				t.Errorf("Tell(%v, %q) is %v %v %d, must be %d", l, name, got, told, e, is)
			}
		}
	}
}

func TestK1TellNumbers(t *testing.T) {
	for was, now := range map[int]int{0: 1, 1: 2, 2: 3, 255: 256, 8388607: 8388608, 8388608: 8388609, api.MaxSeq - 1: api.MaxSeq, api.MaxSeq: 0} {
		want := list(of(1, "t", "a", now))
		if l, told, e := watch.Tell(list(of(1, "t", "a", was)), "a"); !slices.Equal(l, want) || !slices.Equal(told, want) || e != api.OK {
			t.Errorf("behind %d stand %v %v %d, must be %d", was, l, told, e, now)
		}
	}
}

func TestK2Fresh(t *testing.T) {
	const half, end = 8388608, api.MaxSeq
	for _, c := range []struct {
		was, now int
		want     bool
	}{
		{0, 0, false}, {1, 1, false}, {end, end, false}, {half, half, false},
		{0, 1, true}, {1, 0, false}, {1, 2, true}, {2, 1, false}, {end - 1, end, true}, {end, end - 1, false},
		{0, half - 1, true}, {0, half, false}, {0, half + 1, false}, {0, end, false}, // more, by less than half
		{5, half + 4, true}, {5, half + 5, false}, {5, half + 6, false},
		{half, end, true}, {half - 1, end - 1, true}, {half - 1, end, false}, {half + 1, end, true},
		{half - 1, 0, false}, {half, 0, false}, {half + 1, 0, true}, {end, 0, true}, // less, by more than half
		{half + 5, 5, false}, {half + 6, 5, true}, {half + 4, 5, false},
		{end, half, false}, {end, half - 1, false}, {end, half - 2, true},
		{end, 1, true}, {end - 1, 1, true},
	} {
		if is, e := watch.Fresh(c.was, c.now); is != c.want || e != api.OK {
			t.Errorf("Fresh(%d, %d) is %v %d, must be %v", c.was, c.now, is, e, c.want)
		}
	}
	for _, bad := range []int{-1, -half, -half - 1, end + 1, end + half, math.MaxInt, math.MinInt} {
		for _, good := range []int{0, 1, half, end, bad} {
			if is, e := watch.Fresh(bad, good); is || e != api.ErrRange {
				t.Errorf("Fresh(%d, %d) is %v %d", bad, good, is, e)
			}
			if is, e := watch.Fresh(good, bad); is || e != api.ErrRange {
				t.Errorf("Fresh(%d, %d) is %v %d", good, bad, is, e)
			}
		}
	}
}

// One is fresh behind another one, or that behind it, or they are the same, or just half of all apart.
func TestK2FreshGoesOneWay(t *testing.T) {
	d := draw(2)
	for range 20000 {
		a, b := d.n(api.MaxSeq+1), d.n(api.MaxSeq+1)
		one, _ := watch.Fresh(a, b)
		other, _ := watch.Fresh(b, a)
		// How many steps it is from a to b, round all numbers.
		steps := (b - a + api.MaxSeq + 1) % (api.MaxSeq + 1)
		if one != (steps > 0 && steps < 8388608) || one && other {
			t.Fatalf("Fresh(%d, %d) is %v, the other way %v", a, b, one, other)
		}
	}
}

// draw numbers, the same each time.
type draw uint64

func (d *draw) n(n int) int {
	*d = *d*6364136223846793005 + 1442695040888963407
	return int(uint64(*d) >> 33 % uint64(n))
}

func TestK3WhatIsToldIsFresh(t *testing.T) {
	d := draw(3)
	for _, from := range []int{0, 1, 4000, 8388600, api.MaxSeq - 20, api.MaxSeq} {
		l := list(of(1, "t", "a", from), of(2, "t", "b", from), of(1, "u", "a", d.n(api.MaxSeq+1)))
		for step := range 200 {
			name := []string{"a", "b", "c"}[d.n(3)]
			now, told, e := watch.Tell(l, name)
			if e != api.OK || watch.Check(now) != api.OK || len(now) != len(l) {
				t.Fatalf("step %d: of %v it is %v %d", step, l, now, e)
			}
			var want []api.Watch
			for i, w := range l {
				is, e := watch.Fresh(w.Number, now[i].Number)
				if e != api.OK || is != (w.Topic == name) || !is && now[i] != w {
					t.Fatalf("step %d: told was %v, now it is %v", step, w, now[i])
				}
				if is {
					want = append(want, now[i])
				}
			}
			if !slices.Equal(told, want) {
				t.Fatalf("step %d: told are %v, must be %v", step, told, want)
			}
			l = now
		}
	}
}

// All that was told from the beginning on is stale then, up to half of all numbers.
func TestK3WhatWasToldIsStale(t *testing.T) {
	l := list(of(1, "t", "a", api.MaxSeq-100))
	var numbers []int
	for range 300 {
		all, told, _ := watch.Tell(l, "a")
		l = all
		for _, was := range numbers {
			if is, e := watch.Fresh(was, told[0].Number); !is || e != api.OK {
				t.Fatalf("%d is not fresh behind %d", told[0].Number, was)
			}
			if is, e := watch.Fresh(told[0].Number, was); is || e != api.OK {
				t.Fatalf("%d is fresh behind %d", was, told[0].Number)
			}
		}
		numbers = append(numbers, told[0].Number)
	}
}

// A list by chance: what comes of it is right, and as another way of telling it says.
func TestK1ByChance(t *testing.T) {
	d := draw(1)
	var l, model []api.Watch
	most := 0
	for step := range 5000 {
		peer, token, name := d.n(4), []string{"", "t", "u", "tt"}[d.n(4)], []string{"a", "b", "a/b"}[d.n(3)]
		at := slices.IndexFunc(model, func(w api.Watch) bool { return w.Peer == peer && w.Token == token })
		var got []api.Watch
		var e, is api.Errno
		switch kind := d.n(10); {
		case kind < 6:
			got, e = watch.Add(l, peer, token, name)
			if at < 0 && len(model) == api.MaxWatches {
				is = api.ErrMany
				break
			}
			if at >= 0 {
				model = slices.Delete(model, at, at+1)
			}
			model = append(model, of(peer, token, name, 1))
		case kind < 8:
			got, e = watch.Cancel(l, peer, token)
			if at >= 0 {
				model = slices.Delete(model, at, at+1)
			}
		default:
			got, _, e = watch.Tell(l, name)
			for i := range model {
				if model[i].Topic == name {
					model[i].Number++
				}
			}
		}
		if e != is || e != api.OK && len(got) != 0 {
			t.Fatalf("step %d: of %v it is %v %d, must be %d", step, l, got, e, is)
		}
		if e == api.OK {
			l = got
		}
		most = max(most, len(l))
		if watch.Check(l) != api.OK || !slices.Equal(l, model) {
			t.Fatalf("step %d: it is %v, must be %v", step, l, model)
		}
	}
	if most != api.MaxWatches {
		t.Errorf("there were at most %d, meant were %d", most, api.MaxWatches)
	}
}

func TestP1NothingPanicsAndErrorsAnswerNothingElse(t *testing.T) {
	defer func() {
		if r := recover(); r != nil {
			t.Fatalf("panic: %v", r)
		}
	}()
	lists := [][]api.Watch{nil, {}, some(), several(api.MaxWatches), several(99), make([]api.Watch, 3)}
	for _, c := range wrong() {
		lists = append(lists, c.l)
	}
	hostile := []string{"", "/", "\x00", "#", "+", "a", "t", "\xff\xfe", strings.Repeat("/", 99), x(8), x(9), x(60), x(61), x(1000)}
	numbers := []int{0, 1, 9, 10, -1, api.MaxSeq, api.MaxSeq + 1, math.MaxInt, math.MinInt}
	right := func(l []api.Watch, e api.Errno) bool {
		return e != api.OK && len(l) == 0 || e == api.OK && watch.Check(l) == api.OK
	}
	for _, l := range lists {
		for _, a := range hostile {
			for _, n := range numbers {
				for _, b := range hostile {
					if got, e := watch.Add(l, n, a, b); !right(got, e) {
						t.Errorf("Add(%v, %d, %q, %q) is %v %d", l, n, a, b, got, e)
					}
				}
				if got, e := watch.Cancel(l, n, a); !right(got, e) {
					t.Errorf("Cancel(%v, %d, %q) is %v %d", l, n, a, got, e)
				}
			}
			if got, told, e := watch.Tell(l, a); !right(got, e) || !right(told, e) {
				t.Errorf("Tell(%v, %q) is %v %v %d", l, a, got, told, e)
			}
		}
	}
	for _, a := range numbers {
		for _, b := range numbers {
			if is, e := watch.Fresh(a, b); e != api.OK && is {
				t.Errorf("Fresh(%d, %d) is %v %d", a, b, is, e)
			}
		}
	}
}

// calls of the package, of one list.
func calls() []func([]api.Watch) ([]api.Watch, []api.Watch, api.Errno) {
	type answer = func([]api.Watch) ([]api.Watch, []api.Watch, api.Errno)
	add := func(peer int, token string) answer {
		return func(l []api.Watch) ([]api.Watch, []api.Watch, api.Errno) {
			got, e := watch.Add(l, peer, token, "new")
			return got, nil, e
		}
	}
	cancel := func(peer int, token string) answer {
		return func(l []api.Watch) ([]api.Watch, []api.Watch, api.Errno) {
			got, e := watch.Cancel(l, peer, token)
			return got, nil, e
		}
	}
	tell := func(name string) answer {
		return func(l []api.Watch) ([]api.Watch, []api.Watch, api.Errno) { return watch.Tell(l, name) }
	}
	return []answer{add(5, "n"), add(3, "t"), add(9, x(8)), cancel(3, "t"), cancel(9, x(8)), cancel(5, "n"), tell("a/b"), tell("a"), tell("none")}
}

func TestP2WhatIsHandedInIsOnlyRead(t *testing.T) {
	for n := range len(some()) + 1 {
		room := some()
		watch.Check(room[:n])
		for i, call := range calls() {
			call(room[:n])
			if !slices.Equal(room, some()) {
				t.Errorf("call %d: of %d it is %v now", i, n, room)
			}
		}
	}
}

func spoil(l []api.Watch) {
	for i := range l[:cap(l)] {
		l[:cap(l)][i] = of(-9, "changed", "changed", -9)
	}
}

// What is changed behind a call is not seen in its answer, nor the other way; nor is one list of it seen in another.
func TestP2ListsAreNotShared(t *testing.T) {
	for i, call := range calls() {
		l := append(make([]api.Watch, 0, 40), some()...)
		got, told, e := call(l)
		was := fmt.Sprint(got, told)
		spoil(l)
		if e != api.OK || fmt.Sprint(got, told) != was {
			t.Errorf("call %d: it was %s and is %v %v %d", i, was, got, told, e)
		}
		handed := some()
		got, told, _ = call(handed)
		was = fmt.Sprint(told)
		spoil(got)
		if fmt.Sprint(told) != was {
			t.Errorf("call %d: two lists share memory", i)
		}
		spoil(told)
		if !slices.Equal(handed, some()) {
			t.Errorf("call %d: what was handed in is %v now", i, handed)
		}
	}
}

// within: does a text lie in the memory of another one?
func within(part, all string) bool {
	if part == "" || all == "" {
		return false
	}
	at := uintptr(unsafe.Pointer(unsafe.StringData(part)))
	from := uintptr(unsafe.Pointer(unsafe.StringData(all)))
	return at >= from && at < from+uintptr(len(all))
}

func texts(l []api.Watch) []string {
	var all []string
	for _, w := range l {
		all = append(all, w.Token, w.Topic)
	}
	return all
}

func TestP2AnswersAreNewMemory(t *testing.T) {
	l := list(of(1, x(3), x(4), 1), of(2, x(5), x(6), 1))
	token, name := x(7), x(8)
	handed := append(texts(l), token, name)
	a, _ := watch.Add(l, 1, token, name)
	b, _ := watch.Add(l, 1, l[0].Token, l[0].Topic)
	c, _ := watch.Cancel(l, 1, token)
	d, told, _ := watch.Tell(l, l[1].Topic)
	got := texts(slices.Concat(a, b, c, d, told))
	if len(got) != 20 {
		t.Fatalf("only %d texts are asked of", len(got))
	}
	for _, g := range got {
		for _, in := range handed {
			if within(g, in) {
				t.Errorf("%q is a piece of what was handed in, %q", g, in)
			}
		}
	}
	for _, g := range texts(told) {
		for _, o := range texts(d) {
			if within(g, o) {
				t.Errorf("%q is a piece of another list's, %q", g, o)
			}
		}
	}
}

func TestP2NilAndEmptyListsAreOne(t *testing.T) {
	empty := make([]api.Watch, 0, 5)
	if watch.Check(empty) != api.OK || watch.Check(nil) != api.OK {
		t.Errorf("Check is %d and %d", watch.Check(empty), watch.Check(nil))
	}
	for i, call := range calls() {
		a, told, e := call(empty)
		b, some, f := call(nil)
		if fmt.Sprint(a, told, e) != fmt.Sprint(b, some, f) || e != api.OK {
			t.Errorf("call %d is %v %v %d and %v %v %d", i, a, told, e, b, some, f)
		}
	}
}

func TestP3OneAnswerForOneQuestion(t *testing.T) {
	answer := func() string {
		all := fmt.Sprint(watch.Check(some()))
		for _, call := range calls() {
			l, told, e := call(some())
			all += fmt.Sprint(l, told, e)
		}
		is, e := watch.Fresh(5, 6)
		return all + fmt.Sprint(is, e)
	}
	first := answer()
	for i := range 100 {
		watch.Add(several(i%14), i%12, x(i%10), "a")
		watch.Cancel(some(), i%12, "t")
		watch.Tell(several(i%14), "t")
		watch.Fresh(i, 1)
		if again := answer(); again != first {
			t.Fatalf("it was %s and is %s", first, again)
		}
	}
}

func TestP4GreatThings(t *testing.T) {
	great := strings.Repeat("/", 8<<20)
	for i, c := range []spoiled{
		{make([]api.Watch, 1<<20), api.ErrMany},
		{list(of(1, great, "a", 1)), api.ErrMany},
		{list(of(1, "t", great, 1)), api.ErrMany},
	} {
		if e := watch.Check(c.l); e != c.want {
			t.Errorf("%d: Check is %d, must be %d", i, e, c.want)
		}
	}
	if l, e := watch.Add(some(), 1, great, "a"); len(l) != 0 || e != api.ErrMany {
		t.Errorf("Add of a great token is %d", e)
	}
	if l, e := watch.Add(some(), 1, "t", great); len(l) != 0 || e != api.ErrMany {
		t.Errorf("Add of a great topic is %d", e)
	}
	if l, e := watch.Cancel(some(), 1, great); len(l) != 0 || e != api.ErrMany {
		t.Errorf("Cancel of a great token is %d", e)
	}
	if l, told, e := watch.Tell(some(), great); len(l)+len(told) != 0 || e != api.ErrMany {
		t.Errorf("Tell of a great topic is %d", e)
	}
}
