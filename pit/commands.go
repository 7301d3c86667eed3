package pit

import (
	"pit/api"
	"pit/book"
)

func (p *Pit) book(number int) *book.Book { return p.books[number-1] }

// resting finds an order in whatever book it rests, and tells whether it does.
func (p *Pit) resting(id int) (api.Order, bool) {
	for _, b := range p.books {
		if o, ok := b.Order(id); ok {
			return o, true
		}
	}
	return api.Order{}, false
}

// restingOf finds an order as resting does, but none of another trader's.
func (p *Pit) restingOf(trader, id int) (api.Order, bool) {
	o, ok := p.resting(id)
	if !ok || o.Trader != trader {
		return api.Order{}, false
	}
	return o, true
}

// enter does the command New.
func (p *Pit) enter(c api.Command) []api.Event {
	if e := p.barred(c); e != api.OK {
		return refused(c.Id, e)
	}
	o := api.Order{Id: c.Id, Trader: c.Trader, Book: c.Book, Side: c.Side, Price: c.Price, Open: c.Count}
	p.book(o.Book).Put(o)
	return []api.Event{taken(o), rests(o)}
}

// barred tells why a New is refused, OK if it is not.
func (p *Pit) barred(c api.Command) api.Errno {
	if !newNumbers(c) {
		return api.ErrNumber
	}
	if _, known := p.resting(c.Id); known {
		return api.ErrKnown
	}
	b := p.book(c.Book)
	if b.Gathers() && c.Kind != api.Rest {
		return api.ErrPhase
	}
	if b.Full() {
		return api.ErrFull
	}
	return api.OK
}

func (p *Pit) cancel(c api.Command) []api.Event {
	if !isId(c.Id) || !isTrader(c.Trader) {
		return refused(c.Id, api.ErrNumber)
	}
	o, ok := p.restingOf(c.Trader, c.Id)
	if !ok {
		return refused(c.Id, api.ErrNone)
	}
	p.book(o.Book).Remove(o.Id)
	return []api.Event{gone(o)}
}

func (p *Pit) change(c api.Command) []api.Event {
	if !changeNumbers(c) {
		return refused(c.Id, api.ErrNumber)
	}
	o, ok := p.restingOf(c.Trader, c.Id)
	if !ok {
		return refused(c.Id, api.ErrNone)
	}
	if c.Price == o.Price && c.Count <= o.Open {
		return p.shrink(o, c.Count)
	}
	return p.replace(o, c.Price, c.Count)
}

// shrink says anew what is open of an order, which keeps its place.
func (p *Pit) shrink(o api.Order, count int) []api.Event {
	o.Open = count
	p.book(o.Book).Reopen(o.Id, o.Open)
	return []api.Event{rests(o)}
}

// replace takes an order out and enters it anew. That is never refused: its number and its room are free by then.
func (p *Pit) replace(o api.Order, price, count int) []api.Event {
	p.book(o.Book).Remove(o.Id)
	anew := api.Command{
		What: api.New, Id: o.Id, Trader: o.Trader, Book: o.Book,
		Side: o.Side, Kind: api.Rest, Price: price, Count: count,
	}
	return append([]api.Event{gone(o)}, p.enter(anew)...)
}

func (p *Pit) cancelAll(c api.Command) []api.Event {
	if !isTrader(c.Trader) {
		return refused(0, api.ErrNumber)
	}
	var out []api.Event
	for _, b := range p.books {
		for _, o := range b.Of(c.Trader) {
			b.Remove(o.Id)
			out = append(out, gone(o))
		}
	}
	return out
}
