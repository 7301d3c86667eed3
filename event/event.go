// Package event makes the events that commands lead to: what one does not say is 0.
package event

import "pit/api"

// Refused tells why a command is not done.
func Refused(id int, e api.Errno) api.Event {
	return api.Event{What: api.Refused, Id: id, Error: e}
}

// Taken tells that an order was taken, ahead of all that it meets.
func Taken(o api.Order) api.Event {
	return api.Event{What: api.Taken, Id: o.Id, Count: o.Open}
}

// Traded tells of the order that came and the one that rested (in an opening: the one that buys, the one that sells).
func Traded(came, rested api.Order, price, count int) api.Event {
	return api.Event{What: api.Traded, Id: came.Id, Other: rested.Id, Price: price, Count: count}
}

// Rests tells that an order waits, with what is open of it.
func Rests(o api.Order) api.Event {
	return api.Event{What: api.Rests, Id: o.Id, Price: o.Price, Count: o.Open}
}

// Gone tells that what is open of an order waits no more.
func Gone(o api.Order) api.Event {
	return api.Event{What: api.Gone, Id: o.Id, Count: o.Open}
}

// Opened tells of an opening: the price, 0 if there is none, and how many were traded.
func Opened(price, count int) api.Event {
	return api.Event{What: api.Opened, Price: price, Count: count}
}

// Closed tells that a book gathers again.
func Closed() api.Event { return api.Event{What: api.Closed} }
