package world_test

import (
	"fmt"
	"math"
	"reflect"
	"slices"
	"strings"
	"testing"
	"unsafe"

	"dragoman/api"
	"dragoman/broker"
	"dragoman/world"
)

// none: nobody is there, and nothing is kept.
func none() api.Broker { return api.Broker{} }

// full: a broker that has as much as may be of most things.
func full() api.Broker {
	b := api.Broker{Next: 65535}
	for i := range api.MaxKept {
		b.Kept = append(b.Kept, api.Kept{Topic: fmt.Sprintf("k/%02d", i), Payload: x(200), Version: api.MaxSeq})
	}
	for i := range api.MaxSessions {
		s := api.Session{Client: fmt.Sprint("c", i), On: i%2 == 0, Clean: i == 0, Next: api.MaxId}
		for j := range api.MaxFlights {
			s.Flights = append(s.Flights, flight(j+1, x(200)))
		}
		for range api.MaxQueue {
			s.Queue = append(s.Queue, flight(0, x(199)))
		}
		b.Sessions = append(b.Sessions, s)
		b.Wants = append(b.Wants, want(s.Client, "#", 1), want(s.Client, "+/+", 0), want(s.Client, "k/00", 1))
	}
	for i := range api.MaxWatches {
		b.Watches = append(b.Watches, api.Watch{Peer: i % 10, Token: fmt.Sprint("t", i), Topic: fmt.Sprintf("k/%02d", i%3), Number: api.MaxSeq})
	}
	return b
}

// call: one of the package, what it is handed, and what it answers.
type call struct {
	handed []any
	do     func() (api.Broker, []api.Rest, [][]api.Sent, api.Errno)
}

func stepCall(b api.Broker, rest []api.Rest, e api.Event) call {
	return call{[]any{b, rest, e}, func() (api.Broker, []api.Rest, [][]api.Sent, api.Errno) {
		got, left, sent, wrong := world.Step(b, rest, e)
		return got, left, [][]api.Sent{sent}, wrong
	}}
}

func runCall(b api.Broker, l []api.Event) call {
	return call{[]any{b, l}, func() (api.Broker, []api.Rest, [][]api.Sent, api.Errno) {
		got, all, wrong := world.Run(b, l)
		return got, nil, all, wrong
	}}
}

// streams that do something, and some that do not.
func streams(client string) []string {
	return []string{
		"", ping, "\xc0", bye, "\xf0\x00", ping + "\xc0\x80\x00", ping + "\x30\x09\x00",
		stream(connect(client, false)), stream(connect(client, true)) + "\x30", stream(connect("other", true)),
		stream(publish("a/b", "21", 0, 0), publish("a/b", "22", 1, 1)), stream(retain(publish("a/b", "", 1, 1))), stream(retain(publish("k/00", "23", 1, 1))),
		stream(subscribe(1, ask("#", 1), ask("a/b", 0))), stream(unsubscribe(1, "#")), stream(puback(2), puback(1)),
	}
}

func messages() []string {
	var all []string
	for _, m := range []api.Message{
		{Id: 7}, asks(api.Con, api.CodeGet, 7, "t", "a/b", "", ""), asks(api.Non, api.CodeGet, 7, "t", "a/b", "", "\x01"),
		asks(api.Con, api.CodePut, 7, "t", "a/b", "21"), asks(api.Non, api.CodePut, 7, "t", "k/00", "21"), asks(api.Con, api.CodeDelete, 7, "t", "a/b", ""),
		asks(api.Con, 99, 7, "t", "a/b", ""), asks(api.Con, api.CodeGet, 7, "t", "a/+", ""), asks(api.Con, api.CodeGet, 7, "token", "none", ""),
	} {
		all = append(all, bytes(m))
	}
	return append(all, "", "x")
}

func events() []api.Event {
	var all []api.Event
	for _, client := range []string{"ann", "bob", "cy", "dan", "c0", "new"} {
		for _, s := range streams(client) {
			all = append(all, of(client, s))
		}
	}
	for i, s := range messages() {
		all = append(all, ofPeer(i%10, s), ofPeer(1, s))
	}
	return all
}

func rests() [][]api.Rest {
	return [][]api.Rest{nil, waits("ann", "\xc0"), waits("a", "\x30\x20", "ann", ping+"\x82", "bob", "\xf0\x00", "c0", x(600), "zed", "\x30\x05")}
}

// calls that have no error.
func calls() []call {
	var all []call
	for _, b := range []func() api.Broker{none, some, full} {
		for _, rest := range rests() {
			for _, e := range events() {
				all = append(all, stepCall(b(), rest, e))
			}
		}
		l := events()
		all = append(all, runCall(b(), l[:50]), runCall(b(), l[50:90]), runCall(b(), l[90:]), runCall(b(), nil))
	}
	return all
}

func showAll(b api.Broker, rest []api.Rest, all [][]api.Sent) string {
	s := show(b, rest, nil)
	for i, sent := range all {
		s += fmt.Sprintf("\n\t%d: %+v", i, sent)
	}
	return s
}

func TestP1NothingPanicsAndErrorsAnswerNothingElse(t *testing.T) {
	defer func() {
		if r := recover(); r != nil {
			t.Fatalf("panic: %v", r)
		}
	}()
	hostile := []string{"", "/", "\x00", "ann", "\xff\xfe", strings.Repeat("\xc0\x00", 99), x(20), x(21), x(1000), "\x30\xff\xff\xff\x7f", "\x40\x00\x00\x00\xff"}
	numbers := []int{0, 1, 9, 10, -1, math.MaxInt, math.MinInt}
	all := calls()
	for _, c := range all {
		if _, _, _, e := c.do(); e != api.OK {
			t.Errorf("of %+v it is %d", c.handed, e)
		}
	}
	for _, c := range wrong() {
		all = append(all, stepCall(c.b, c.rest, c.e), runCall(c.b, []api.Event{c.e}))
	}
	for i, a := range hostile {
		for j, b := range hostile {
			e := api.Event{Client: a, Peer: numbers[(i+j)%len(numbers)], Bytes: b}
			all = append(all,
				stepCall(some(), waits(b, a), e), stepCall(some(), waits("ann", b), of("ann", a)), stepCall(some(), nil, ofPeer(e.Peer, b)),
				stepCall(api.Broker{Next: e.Peer}, nil, e), runCall(some(), []api.Event{of("ann", a), of("ann", b), e}))
		}
	}
	for _, c := range all {
		got, rest, sent, e := c.do()
		if e != api.OK && (!isZero(got, rest, join(sent...)) || len(sent) > 1) || e == api.OK && !isRight(got, rest) {
			t.Errorf("of %+v it is %s %d", c.handed, showAll(got, rest, sent), e)
		}
	}
}

// Bytes by chance, and bytes that are nearly right.
func TestP1BytesByChance(t *testing.T) {
	defer func() {
		if r := recover(); r != nil {
			t.Fatalf("panic: %v", r)
		}
	}()
	d := draw(7)
	b := some()
	var rest []api.Rest
	for range 20000 {
		s := []byte(d.one(streams("ann")...))
		e := of("ann", "")
		if d.n(3) == 0 {
			s, e = []byte(d.one(messages()...)), ofPeer(d.n(10), "")
		}
		for i := range s {
			if d.n(20) == 0 {
				s[i] = byte(d.n(256))
			}
		}
		e.Bytes = string(s[:d.n(len(s)+1)])
		b, rest, _ = step(t, b, rest, e)
	}
}

// What has no name in the answer has its zero value: of packets and of messages, of those to clients and of those to peers.
func TestP1OtherFieldsAreZero(t *testing.T) {
	for _, c := range calls() {
		_, _, all, _ := c.do()
		for _, s := range join(all...) {
			noPacket, noMessage := fmt.Sprint(s.Packet) == fmt.Sprint(api.Packet{}), fmt.Sprint(s.Message) == fmt.Sprint(api.Message{})
			if s.Client != "" && (s.Peer != 0 || noPacket || !noMessage) || s.Client == "" && (!noPacket || noMessage) {
				t.Errorf("sent is %+v", s)
			}
		}
	}
}

// copied: a value in memory of its own, with so much spare room behind its lists, filled with zeros.
func copied(v reflect.Value, room int) reflect.Value {
	switch v.Kind() {
	case reflect.Slice:
		c := reflect.MakeSlice(v.Type(), v.Len()+room, v.Len()+room)
		for i := range v.Len() {
			c.Index(i).Set(copied(v.Index(i), room))
		}
		return c.Slice(0, v.Len())
	case reflect.Struct:
		c := reflect.New(v.Type()).Elem()
		for i := range v.NumField() {
			c.Field(i).Set(copied(v.Field(i), room))
		}
		return c
	case reflect.String:
		return reflect.ValueOf(strings.Clone(v.String()))
	}
	return v
}

// roomy: a copy with spare room behind each list.
func roomy[T any](v T) T { return copied(reflect.ValueOf(v), 3).Interface().(T) }

// whole: a value with all the room of its lists, as a text.
func whole(v reflect.Value) string {
	switch v.Kind() {
	case reflect.Slice:
		var all []string
		for i := range v.Cap() {
			all = append(all, whole(v.Slice(0, v.Cap()).Index(i)))
		}
		return "[" + strings.Join(all, " ") + "]"
	case reflect.Struct:
		var all []string
		for i := range v.NumField() {
			all = append(all, whole(v.Field(i)))
		}
		return "{" + strings.Join(all, " ") + "}"
	}
	return fmt.Sprintf("%v", v)
}

func TestP2WhatIsHandedInIsOnlyRead(t *testing.T) {
	for _, right := range []api.Broker{{}, some(), full()} {
		b, l := roomy(right), roomy(events())
		wasB, wasL := whole(reflect.ValueOf(b)), whole(reflect.ValueOf(l))
		for _, r := range rests() {
			rest := roomy(r)
			was := whole(reflect.ValueOf(rest))
			for _, e := range l {
				world.Step(b, rest, e)
			}
			if is := whole(reflect.ValueOf(rest)); is != was {
				t.Errorf("of what waits it was %q and is %q", was, is)
			}
		}
		world.Run(b, l[:60])
		world.Run(b, l[60:])
		if is := whole(reflect.ValueOf(b)); is != wasB {
			t.Errorf("of the broker it was %s and is %s", wasB, is)
		}
		if is := whole(reflect.ValueOf(l)); is != wasL {
			t.Errorf("of the events it was %q and is %q", wasL, is)
		}
	}
}

// piece of memory: where it begins and ends, and what it is of.
type piece struct {
	from, to uintptr
	of       string
}

// pieces of memory that a value has: its lists, with all their room, and its texts.
func pieces(v reflect.Value) []piece {
	var all []piece
	switch v.Kind() {
	case reflect.Slice:
		if v.Cap() > 0 {
			from := v.Pointer()
			all = append(all, piece{from, from + uintptr(v.Cap())*v.Type().Elem().Size(), v.Type().String()})
		}
		for i := range v.Len() {
			all = append(all, pieces(v.Index(i))...)
		}
	case reflect.Struct:
		for i := range v.NumField() {
			all = append(all, pieces(v.Field(i))...)
		}
	case reflect.String:
		if s := v.String(); s != "" {
			from := uintptr(unsafe.Pointer(unsafe.StringData(s)))
			all = append(all, piece{from, from + uintptr(len(s)), s})
		}
	case reflect.Interface:
		all = append(all, pieces(v.Elem())...)
	}
	return all
}

// What is answered shares no memory with what was handed in, nor one part of it with another one.
func TestP2AnswersAreNewMemory(t *testing.T) {
	for _, c := range calls() {
		got, rest, sent, _ := c.do()
		handed := pieces(reflect.ValueOf(c.handed))
		answered := slices.Concat(pieces(reflect.ValueOf(got)), pieces(reflect.ValueOf(rest)), pieces(reflect.ValueOf(sent)))
		for i, a := range answered {
			for _, o := range slices.Concat(handed, answered[:i]) {
				if a.from < o.to && o.from < a.to {
					t.Fatalf("of %+v: %q shares memory with %q", c.handed, a.of, o.of)
				}
			}
		}
	}
}

// A later change of what was handed in is not seen, nor is one of what was answered ahead.
func TestP2NothingIsKept(t *testing.T) {
	for _, e := range events() {
		b, rest := roomy(some()), waits("ann", "\xc0", "zed", "\x30")
		got, left, sent := step(t, b, rest, e)
		was := show(got, left, sent)
		spoil(b)
		for i := range rest {
			rest[i] = api.Rest{Client: "changed", Bytes: "changed"}
		}
		if show(got, left, sent) != was {
			t.Errorf("of %+v it was %s and is %s", e, was, show(got, left, sent))
		}
		next, more, told := step(t, got, left, of("bob", ping))
		was = show(next, more, told)
		spoil(got)
		for i := range left {
			left[i] = api.Rest{Client: "changed", Bytes: "changed"}
		}
		if show(next, more, told) != was {
			t.Errorf("behind %+v it was %s and is %s", e, was, show(next, more, told))
		}
	}
	b, l := some(), events()[:60]
	got, all, _ := world.Run(b, l)
	was := showRun(got, all)
	spoil(b)
	for i := range l {
		l[i] = of("changed", "changed")
	}
	if showRun(got, all) != was {
		t.Errorf("it was %s and is %s", was, showRun(got, all))
	}
}

// spoil all of a broker.
func spoil(b api.Broker) {
	for i := range b.Kept {
		b.Kept[i].Payload = "changed"
	}
	for i := range b.Wants {
		b.Wants[i].Client = "changed"
	}
	for i := range b.Sessions {
		for j := range b.Sessions[i].Flights {
			b.Sessions[i].Flights[j].Payload = "changed"
		}
		for j := range b.Sessions[i].Queue {
			b.Sessions[i].Queue[j].Payload = "changed"
		}
		b.Sessions[i].Client = "changed"
	}
	for i := range b.Watches {
		b.Watches[i].Token = "changed"
	}
}

func TestP2NilAndEmptyListsAreOne(t *testing.T) {
	empty := api.Broker{Kept: []api.Kept{}, Wants: make([]api.Want, 0, 5), Sessions: make([]api.Session, 0, 5), Watches: []api.Watch{}}
	for _, e := range events() {
		a, restA, sentA := step(t, api.Broker{}, nil, e)
		b, restB, sentB := step(t, empty, make([]api.Rest, 0, 5), e)
		if show(a, restA, sentA) != show(b, restB, sentB) {
			t.Errorf("of %+v it is %s and %s", e, show(a, restA, sentA), show(b, restB, sentB))
		}
	}
	mustRun(t, "nil", empty, nil, api.Broker{}, nil)
	mustRun(t, "empty", empty, make([]api.Event, 0, 5), api.Broker{}, nil)
}

func TestP3OneAnswerForOneQuestion(t *testing.T) {
	all := calls()
	answers := func() []string {
		var told []string
		for _, c := range all {
			b, rest, sent, e := c.do()
			told = append(told, fmt.Sprint(showAll(b, rest, sent), e))
		}
		return told
	}
	first := answers()
	for range 2 {
		for _, c := range wrong() {
			world.Step(c.b, c.rest, c.e)
			world.Run(c.b, []api.Event{c.e})
		}
		for i, a := range answers() {
			if a != first[i] {
				t.Fatalf("of %+v it was %s and is %s", all[i].handed, first[i], a)
			}
		}
	}
}

func TestP4GreatThings(t *testing.T) {
	great := strings.Repeat("/", 8<<20)
	for i, c := range []asked{
		{some(), nil, of(great, ""), api.ErrForm},
		{some(), waits(great, "\xc0"), of("ann", ""), api.ErrForm},
		{some(), waits("ann", great), of("ann", ""), api.ErrMany},
		{api.Broker{Kept: make([]api.Kept, 1<<20)}, nil, of("ann", ""), api.ErrMany},
		{some(), make([]api.Rest, 1<<20), of("ann", ""), api.ErrForm},
	} {
		if b, rest, sent, e := world.Step(c.b, c.rest, c.e); e != c.want || !isZero(b, rest, sent) {
			t.Errorf("%d: it is %d, must be %d", i, e, c.want)
		}
	}
	if b, all, e := world.Run(some(), make([]api.Event, 1<<20)); e != api.ErrMany || len(all) > 0 || !isZero(b, nil, nil) {
		t.Errorf("Run of many events is %d", e)
	}
	mustStep(t, "a great stream that is wrong", some(), nil, of("ann", "\xf0\x00"+great), answer{b: gone("ann")})
	mustStep(t, "a great message that is wrong", some(), nil, ofPeer(1, great), answer{b: some()})
	const many = 100000
	b, rest, sent := step(t, some(), waits("ann", "\xc0"), of("ann", "\x00"+strings.Repeat(ping, many)+"\x30"))
	if show(b, rest, nil) != show(some(), waits("ann", "\x30"), nil) || len(sent) != many+1 || broker.Check(b) != api.OK {
		t.Errorf("of a great stream there are sent %d, and it is %s", len(sent), show(b, rest, nil))
	}
	var names []string
	for i := range 20000 {
		names = append(names, fmt.Sprintf("c%06d", i), "\xc0")
	}
	mustStep(t, "of many something waits", some(), waits(names...), of("ann", "\x30"), answer{some(), waits(append([]string{"ann", "\x30"}, names...)...), nil})
}
