package broker_test

import (
	"fmt"
	"math"
	"reflect"
	"strings"
	"testing"
	"unsafe"

	"dragoman/api"
	"dragoman/broker"
)

// right brokers.
func right() []api.Broker {
	full := func(b *api.Broker) {
		b.Sessions[0].Flights = []api.Flight{flight(2, "f2"), flight(7, "f7"), flight(3, "f3")}
		b.Sessions[0].Queue = []api.Flight{flight(0, "q1"), flight(0, "q2")}
	}
	return []api.Broker{
		{}, some(), but(full), withPub(some()), quiet(), fullOfKept(),
		{Sessions: sessionsMany(api.MaxSessions), Wants: []api.Want{want("s2", "#", 0)}},
		but(func(b *api.Broker) { b.Watches = watchesMany(api.MaxWatches) }),
		but(func(b *api.Broker) { b.Wants = append(wantsMany(api.MaxWants-3), b.Wants[2:]...) }),
	}
}

// call: one of the package, of a broker; what else it is handed; what it answers.
type call struct {
	handed []any
	do     func(b api.Broker) (api.Broker, []api.Sent, api.Errno)
}

// messages that do something, and some that do not.
func messages() []api.Message {
	var all []api.Message
	for _, kind := range []int{api.Con, api.Non, api.Ack, api.Rst} {
		all = append(all, api.Message{Kind: kind, Id: 7})
		for _, path := range []string{"a", "a/b", "c", "new", "a/+"} {
			for _, token := range []string{"t", "", "token"} {
				all = append(all,
					asks(kind, api.CodeGet, 1, token, path, ""), asks(kind, api.CodeGet, 2, token, path, "", ""), asks(kind, api.CodeGet, 3, token, path, "", "\x01"),
					asks(kind, api.CodePut, 4, token, path, "payload"), asks(kind, api.CodePut, 5, token, path, ""),
					asks(kind, api.CodeDelete, 6, token, path, ""), asks(kind, 2, 7, token, path, "payload"))
			}
		}
	}
	return all
}

func calls() []call {
	var all []call
	for _, client := range []string{"ann", "bob", "cy", "dan", "new"} {
		for _, p := range append(allKinds(), connect(client, false), connect(client, true)) {
			all = append(all, call{[]any{client, p}, func(b api.Broker) (api.Broker, []api.Sent, api.Errno) { return broker.Packet(b, client, p) }})
		}
		all = append(all, call{[]any{client}, func(b api.Broker) (api.Broker, []api.Sent, api.Errno) {
			got, e := broker.Gone(b, client)
			return got, nil, e
		}})
	}
	for _, m := range messages() {
		for _, peer := range []int{0, 1, 2} {
			all = append(all, call{[]any{m}, func(b api.Broker) (api.Broker, []api.Sent, api.Errno) { return broker.Message(b, peer, m) }})
		}
	}
	return all
}

func TestP1NothingPanicsAndErrorsAnswerNothingElse(t *testing.T) {
	defer func() {
		if r := recover(); r != nil {
			t.Fatalf("panic: %v", r)
		}
	}()
	all := right()
	for _, c := range wrong() {
		all = append(all, c.b)
	}
	numbers := []int{0, 1, 3, 14, -1, 65535, 65536, math.MaxInt, math.MinInt}
	hostile := []string{"", "/", "\x00", "#", "a", "ann", "\xff\xfe", strings.Repeat("/", 99), x(20), x(60), x(1000)}
	tell := func(b, got api.Broker, sent []api.Sent, e api.Errno) {
		if e != api.OK && !isZero(got, sent) || e == api.OK && !isRight(got, sent) {
			t.Errorf("of %s it is %s %d", show(b, nil), show(got, sent), e)
		}
	}
	for _, b := range all {
		for _, c := range calls() {
			got, sent, e := c.do(b)
			tell(b, got, sent, e)
		}
		for i, n := range numbers {
			for j, text := range hostile {
				other := hostile[(i+j)%len(hostile)]
				p := api.Packet{Kind: (i + j) % 16, Qos: n, Id: n, Topic: text, Client: other, Payload: other, Asks: []api.Ask{{Filter: text, Qos: n}}, Codes: []int{n}}
				got, sent, e := broker.Packet(b, other, p)
				tell(b, got, sent, e)
				m := api.Message{Kind: j % 5, Code: n, Id: n, Token: other, Options: []api.Option{{Number: n, Value: text}, {Number: api.OptPath, Value: text}}, Payload: other}
				got, sent, e = broker.Message(b, n, m)
				tell(b, got, sent, e)
				got, e = broker.Gone(b, text)
				tell(b, got, nil, e)
			}
		}
	}
}

// What has no name in the answer has its zero value: of packets and of messages, of those to clients and of those to peers.
func TestP1OtherFieldsAreZero(t *testing.T) {
	for _, b := range right() {
		for _, c := range calls() {
			_, sent, _ := c.do(b)
			for _, s := range sent {
				noPacket, noMessage := fmt.Sprint(s.Packet) == fmt.Sprint(api.Packet{}), fmt.Sprint(s.Message) == fmt.Sprint(api.Message{})
				if s.Client != "" && (s.Peer != 0 || noPacket || !noMessage) || s.Client == "" && (!noPacket || noMessage) {
					t.Errorf("sent is %+v", s)
				}
			}
		}
	}
}

// copied: a value in memory of its own, with so much spare room behind its lists, filled with zeros.
func copied(v reflect.Value, room int) reflect.Value {
	switch v.Kind() {
	case reflect.Slice:
		c := reflect.MakeSlice(v.Type(), v.Len()+room, v.Len()+room)
		for i := range v.Len() {
			c.Index(i).Set(copied(v.Index(i), room))
		}
		return c.Slice(0, v.Len())
	case reflect.Struct:
		c := reflect.New(v.Type()).Elem()
		for i := range v.NumField() {
			c.Field(i).Set(copied(v.Field(i), room))
		}
		return c
	case reflect.String:
		return reflect.ValueOf(strings.Clone(v.String()))
	}
	return v
}

// whole: a value with all the room of its lists, as a text.
func whole(v reflect.Value) string {
	switch v.Kind() {
	case reflect.Slice:
		var all []string
		for i := range v.Cap() {
			all = append(all, whole(v.Slice(0, v.Cap()).Index(i)))
		}
		return "[" + strings.Join(all, " ") + "]"
	case reflect.Struct:
		var all []string
		for i := range v.NumField() {
			all = append(all, whole(v.Field(i)))
		}
		return "{" + strings.Join(all, " ") + "}"
	}
	return fmt.Sprintf("%v", v)
}

func TestP2WhatIsHandedInIsOnlyRead(t *testing.T) {
	for _, right := range right() {
		held := copied(reflect.ValueOf(right), 3)
		was := whole(held)
		b := held.Interface().(api.Broker)
		broker.Check(b)
		for _, c := range calls() {
			c.do(b)
			if is := whole(held); is != was {
				t.Fatalf("of %v it was %s and is %s", c.handed, was, is)
			}
		}
	}
	for _, p := range allKinds() {
		held := copied(reflect.ValueOf(p), 3)
		was := whole(held)
		broker.Packet(some(), "ann", held.Interface().(api.Packet))
		if is := whole(held); is != was {
			t.Errorf("it was %s and is %s", was, is)
		}
	}
	for _, m := range messages() {
		held := copied(reflect.ValueOf(m), 3)
		was := whole(held)
		broker.Message(some(), 1, held.Interface().(api.Message))
		if is := whole(held); is != was {
			t.Errorf("it was %s and is %s", was, is)
		}
	}
}

// piece of memory: where it begins and ends, and what it is of.
type piece struct {
	from, to uintptr
	of       string
}

// pieces of memory that a value has: its lists, with all their room, and its texts.
func pieces(v reflect.Value) []piece {
	var all []piece
	switch v.Kind() {
	case reflect.Slice:
		if v.Cap() > 0 {
			from := v.Pointer()
			all = append(all, piece{from, from + uintptr(v.Cap())*v.Type().Elem().Size(), fmt.Sprintf("%v", v)})
		}
		for i := range v.Len() {
			all = append(all, pieces(v.Index(i))...)
		}
	case reflect.Struct:
		for i := range v.NumField() {
			all = append(all, pieces(v.Field(i))...)
		}
	case reflect.String:
		if s := v.String(); s != "" {
			from := uintptr(unsafe.Pointer(unsafe.StringData(s)))
			all = append(all, piece{from, from + uintptr(len(s)), s})
		}
	case reflect.Interface:
		all = append(all, pieces(v.Elem())...)
	}
	return all
}

// What is answered shares no memory with what was handed in, nor one part of it with another one.
func TestP2AnswersAreNewMemory(t *testing.T) {
	for _, b := range right() {
		for _, c := range calls() {
			got, sent, _ := c.do(b)
			handed := append(pieces(reflect.ValueOf(b)), pieces(reflect.ValueOf(c.handed))...)
			answered := append(pieces(reflect.ValueOf(got)), pieces(reflect.ValueOf(sent))...)
			for i, a := range answered {
				for _, o := range append(handed, answered[:i]...) {
					if a.from < o.to && o.from < a.to {
						t.Fatalf("of %v: %q shares memory with %q", c.handed, a.of, o.of)
					}
				}
			}
		}
	}
}

// A later change of what was handed in is not seen.
func TestP2NothingIsKept(t *testing.T) {
	asked := subscribe(3, ask("a", 1), ask("b", 0))
	got, sent := doPacket(t, some(), "ann", asked)
	was := show(got, sent)
	asked.Asks[0], asked.Asks[1] = ask("changed", 0), ask("changed", 0)
	if show(got, sent) != was {
		t.Errorf("it was %s and is %s", was, show(got, sent))
	}
	for _, c := range calls() {
		b := some()
		got, sent, _ := c.do(b)
		was := show(got, sent)
		for i := range b.Kept {
			b.Kept[i].Payload = "changed"
		}
		for i := range b.Wants {
			b.Wants[i].Client = "changed"
		}
		for i := range b.Sessions {
			for j := range b.Sessions[i].Flights {
				b.Sessions[i].Flights[j].Payload = "changed"
			}
			for j := range b.Sessions[i].Queue {
				b.Sessions[i].Queue[j].Payload = "changed"
			}
			b.Sessions[i].Client = "changed"
		}
		for i := range b.Watches {
			b.Watches[i].Token = "changed"
		}
		if show(got, sent) != was {
			t.Errorf("of %v it was %s and is %s", c.handed, was, show(got, sent))
		}
	}
}

func TestP2NilAndEmptyListsAreOne(t *testing.T) {
	empty := api.Broker{Kept: []api.Kept{}, Wants: make([]api.Want, 0, 5), Sessions: make([]api.Session, 0, 5), Watches: []api.Watch{}}
	for _, c := range calls() {
		a, sentA, e := c.do(api.Broker{})
		b, sentB, f := c.do(empty)
		if show(a, sentA) != show(b, sentB) || e != f {
			t.Errorf("of %v it is %s %d and %s %d", c.handed, show(a, sentA), e, show(b, sentB), f)
		}
	}
	p := api.Packet{Kind: api.Pingreq, Asks: []api.Ask{}, Codes: []int{}}
	mustPacket(t, "with empty lists", some(), "ann", p, some(), to("ann", api.Packet{Kind: api.Pingresp}))
	m := api.Message{Kind: api.Con, Id: 5, Options: []api.Option{}}
	mustMessage(t, "with an empty list", some(), 1, m, some(), toPeer(1, api.Message{Kind: api.Rst, Id: 5}))
}

func TestP3OneAnswerForOneQuestion(t *testing.T) {
	answer := func() string {
		var all []string
		for _, b := range right()[:4] {
			for _, c := range calls() {
				got, sent, e := c.do(b)
				all = append(all, show(got, sent), fmt.Sprint(e, broker.Check(b)))
			}
		}
		return strings.Join(all, "\n")
	}
	first := answer()
	for range 3 {
		for _, c := range wrong() {
			broker.Check(c.b)
			broker.Gone(c.b, "ann")
		}
		if second := answer(); second != first {
			t.Fatal("there came another answer")
		}
	}
}

func TestP4GreatThings(t *testing.T) {
	great := strings.Repeat("/", 8<<20)
	for i, c := range []spoiled{
		{api.Broker{Kept: make([]api.Kept, 1<<20)}, api.ErrMany},
		{api.Broker{Wants: make([]api.Want, 1<<20)}, api.ErrMany},
		{api.Broker{Sessions: make([]api.Session, 1<<20)}, api.ErrMany},
		{api.Broker{Watches: make([]api.Watch, 1<<20)}, api.ErrMany},
		{api.Broker{Sessions: []api.Session{{Client: great, Next: 1}}}, api.ErrForm},
		{but(func(b *api.Broker) { b.Watches[0].Topic = great }), api.ErrMany},
	} {
		if e := broker.Check(c.b); e != c.want {
			t.Errorf("%d: Check is %d, must be %d", i, e, c.want)
		}
	}
	if b, e := broker.Gone(some(), great); !isZero(b, nil) || e != api.ErrForm {
		t.Errorf("Gone of a great name is %d", e)
	}
	if b, sent, e := broker.Packet(some(), great, connect(great, true)); !isZero(b, sent) || e != api.ErrForm {
		t.Errorf("Packet of a great name is %d", e)
	}
	if b, sent, e := broker.Packet(some(), "ann", publish("a", great, 0, 0)); !isZero(b, sent) || e != api.ErrMany {
		t.Errorf("Packet of a great payload is %d", e)
	}
	if b, sent, e := broker.Packet(some(), "ann", subscribe(1, make([]api.Ask, 1<<20)...)); !isZero(b, sent) || e != api.ErrMany {
		t.Errorf("Packet of many asks is %d", e)
	}
	if b, sent, e := broker.Message(some(), 1, asks(api.Con, api.CodePut, 1, "", "a", great)); !isZero(b, sent) || e != api.ErrMany {
		t.Errorf("Message of a great payload is %d", e)
	}
}
