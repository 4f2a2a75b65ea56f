package copies_test

import (
	"fmt"
	"testing"
	"unsafe"

	"dragoman/api"
	"dragoman/copies"
)

func some() api.Broker {
	return api.Broker{
		Kept:  []api.Kept{{Topic: "a", Payload: "one", Version: 7}},
		Wants: []api.Want{{Client: "ann", Ask: api.Ask{Filter: "a/+", Qos: 1}}},
		Sessions: []api.Session{{
			Client: "ann", On: true, Clean: true, Next: 9,
			Flights: []api.Flight{{Id: 3, Topic: "f", Payload: "flies"}},
			Queue:   []api.Flight{{Topic: "q", Payload: "waits"}},
		}},
		Watches: []api.Watch{{Peer: 2, Token: "t", Topic: "a", Number: 5}},
		Next:    11,
	}
}

func TestBrokerIsTheSame(t *testing.T) {
	for _, b := range []api.Broker{{}, {Next: 1}, some()} {
		if got := copies.Broker(b); fmt.Sprintf("%#v", got) != fmt.Sprintf("%#v", b) {
			t.Errorf("it is %+v, must be %+v", got, b)
		}
	}
}

// texts of a broker.
func texts(b api.Broker) []string {
	s := b.Sessions[0]
	f, q := s.Flights[0], s.Queue[0]
	return []string{
		b.Kept[0].Topic, b.Kept[0].Payload, b.Wants[0].Client, b.Wants[0].Ask.Filter,
		s.Client, f.Topic, f.Payload, q.Topic, q.Payload, b.Watches[0].Token, b.Watches[0].Topic,
	}
}

func TestBrokerSharesNoMemory(t *testing.T) {
	b := some()
	got := copies.Broker(b)
	ahead := texts(b)
	for i, s := range texts(got) {
		if unsafe.StringData(s) == unsafe.StringData(ahead[i]) {
			t.Errorf("%q is in the same memory", s)
		}
	}
	b.Kept[0].Version, b.Wants[0].Ask.Qos, b.Watches[0].Number = 0, 0, 0
	b.Sessions[0].Flights[0].Id, b.Sessions[0].Queue[0].Id = 0, 1
	b.Sessions[0].Next = 0
	if fmt.Sprint(got) != fmt.Sprint(some()) {
		t.Errorf("a later change is seen: it is %+v", got)
	}
}
