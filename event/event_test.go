package event

import (
	"testing"

	"pit/api"
)

// What an event does not say is 0.
func TestEvents(t *testing.T) {
	o := api.Order{Id: 1, Trader: 2, Book: 3, Side: api.Sell, Price: 5, Open: 6}
	for _, c := range []struct{ got, want api.Event }{
		{Refused(7, api.ErrFull), api.Event{What: 1, Id: 7, Error: 5}},
		{Taken(o), api.Event{What: 2, Id: 1, Count: 6}},
		{Traded(o, api.Order{Id: 9, Open: 8, Price: 7}, 4, 3), api.Event{What: 3, Id: 1, Other: 9, Price: 4, Count: 3}},
		{Rests(o), api.Event{What: 4, Id: 1, Price: 5, Count: 6}},
		{Gone(o), api.Event{What: 5, Id: 1, Count: 6}},
		{Opened(4, 3), api.Event{What: 6, Price: 4, Count: 3}},
		{Closed(), api.Event{What: 7}},
	} {
		if c.got != c.want {
			t.Errorf("%+v, want %+v", c.got, c.want)
		}
	}
}
