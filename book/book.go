// Package book keeps the orders that rest in one book, each side from the best one on, and lets them trade.
package book

import (
	"slices"
	"sync/atomic"

	"pit/api"
)

// Book is one book. It trusts its caller: sides and numbers are checked ahead of it.
type Book struct {
	phase  int
	traded int
	total  *atomic.Int64 // of all books, which may be at work at the same time
	sides  [2]side       // those that buy, those that sell
}

// New makes a book in which nothing rests. What it trades is counted in the total too.
func New(total *atomic.Int64) *Book {
	b := &Book{phase: api.Gathering, total: total}
	buys, sells := b.side(api.Buy), b.side(api.Sell)
	buys.beats = buys.above
	sells.beats = sells.below
	return b
}

func (b *Book) side(number int) *side { return &b.sides[number-api.Buy] }

// facing is the side that an order of the given one meets.
func (b *Book) facing(number int) *side { return b.side(api.Buy + api.Sell - number) }

// find tells on which side and at which place an order rests, nil if it does not.
func (b *Book) find(id int) (*side, int) {
	for i := range b.sides {
		if at := b.sides[i].find(id); at >= 0 {
			return &b.sides[i], at
		}
	}
	return nil, -1
}

// State tells how the book stands.
func (b *Book) State() api.State {
	return api.State{
		Phase:  b.phase,
		Buys:   len(b.side(api.Buy).orders),
		Sells:  len(b.side(api.Sell).orders),
		Traded: b.traded,
	}
}

// Phase tells whether the book is Gathering or Trading.
func (b *Book) Phase() int { return b.phase }

// full tells whether no more orders may rest here.
func (b *Book) full() bool {
	resting := 0
	for i := range b.sides {
		resting += len(b.sides[i].orders)
	}
	return resting >= api.MaxResting
}

// Depth tells the best prices of a side, most of them at most, all if most is below 0.
func (b *Book) Depth(side, most int) []api.Level { return b.side(side).levels(most) }

// Order tells an order that rests here, and whether it does.
func (b *Book) Order(id int) (api.Order, bool) {
	s, at := b.find(id)
	if s == nil {
		return api.Order{}, false
	}
	return s.orders[at], true
}

// Orders tells all that rests: first what buys, then what sells, from the best one on.
func (b *Book) Orders() []api.Order {
	return slices.Concat(b.side(api.Buy).orders, b.side(api.Sell).orders)
}

// Of tells what rests of a trader, in the same order.
func (b *Book) Of(trader int) []api.Order {
	return slices.DeleteFunc(b.Orders(), func(o api.Order) bool { return o.Trader != trader })
}

// Remove lets an order rest no more.
func (b *Book) Remove(id int) {
	if s, at := b.find(id); s != nil {
		s.remove(at)
	}
}

// Reopen says anew what is open of an order, which keeps its place.
func (b *Book) Reopen(id, open int) {
	if s, at := b.find(id); s != nil {
		s.orders[at].Open = open
	}
}
