package pit

import (
	"pit/api"
	"pit/book"
	"pit/event"
)

func (p *Pit) book(number int) *book.Book { return p.books[number-1] }

// resting finds an order in whatever book it rests, and tells whether it does.
func (p *Pit) resting(id int) (api.Order, bool) {
	for _, b := range p.books {
		if o, ok := b.Order(id); ok {
			return o, true
		}
	}
	return api.Order{}, false
}

// restingOf finds an order as resting does, but none of another trader's.
func (p *Pit) restingOf(trader, id int) (api.Order, bool) {
	o, ok := p.resting(id)
	if !ok || o.Trader != trader {
		return api.Order{}, false
	}
	return o, true
}

// refused is the whole answer to a command: with it nothing else is said.
func refused(id int, e api.Errno) []api.Event {
	return []api.Event{event.Refused(id, e)}
}

// enter does the command New.
func (p *Pit) enter(c api.Command) []api.Event {
	if !newNumbers(c) {
		return refused(c.Id, api.ErrNumber)
	}
	if _, known := p.resting(c.Id); known {
		return refused(c.Id, api.ErrKnown)
	}
	o := api.Order{Id: c.Id, Trader: c.Trader, Book: c.Book, Side: c.Side, Price: c.Price, Open: c.Count}
	if e := p.book(o.Book).Bars(o, c.Kind); e != api.OK {
		return refused(c.Id, e)
	}
	return p.book(o.Book).Enter(o, c.Kind)
}

func (p *Pit) cancel(c api.Command) []api.Event {
	if !isId(c.Id) || !isTrader(c.Trader) {
		return refused(c.Id, api.ErrNumber)
	}
	o, ok := p.restingOf(c.Trader, c.Id)
	if !ok {
		return refused(c.Id, api.ErrNone)
	}
	p.book(o.Book).Remove(o.Id)
	return []api.Event{event.Gone(o)}
}

func (p *Pit) change(c api.Command) []api.Event {
	if !changeNumbers(c) {
		return refused(c.Id, api.ErrNumber)
	}
	o, ok := p.restingOf(c.Trader, c.Id)
	if !ok {
		return refused(c.Id, api.ErrNone)
	}
	if c.Price == o.Price && c.Count <= o.Open {
		return p.shrink(o, c.Count)
	}
	return p.replace(o, c.Price, c.Count)
}

// shrink says anew what is open of an order, which keeps its place.
func (p *Pit) shrink(o api.Order, count int) []api.Event {
	o.Open = count
	p.book(o.Book).Reopen(o.Id, o.Open)
	return []api.Event{event.Rests(o)}
}

// replace takes an order out and enters it anew. Nothing bars that: its number and its room are free by then.
func (p *Pit) replace(o api.Order, price, count int) []api.Event {
	b := p.book(o.Book)
	b.Remove(o.Id)
	out := []api.Event{event.Gone(o)}
	o.Price, o.Open = price, count
	return append(out, b.Enter(o, api.Rest)...)
}

func (p *Pit) cancelAll(c api.Command) []api.Event {
	if !isTrader(c.Trader) {
		return refused(0, api.ErrNumber)
	}
	var out []api.Event
	for _, b := range p.books {
		for _, o := range b.Of(c.Trader) {
			b.Remove(o.Id)
			out = append(out, event.Gone(o))
		}
	}
	return out
}

func (p *Pit) open(c api.Command) []api.Event {
	if e := p.phased(c.Book, api.Gathering); e != api.OK {
		return refused(0, e)
	}
	return p.book(c.Book).Open()
}

func (p *Pit) close(c api.Command) []api.Event {
	if e := p.phased(c.Book, api.Trading); e != api.OK {
		return refused(0, e)
	}
	return p.book(c.Book).Close()
}

// phased tells why a command that wants a book in a phase is refused, OK if it is not.
func (p *Pit) phased(book, phase int) api.Errno {
	if !isBook(book) {
		return api.ErrNumber
	}
	if p.book(book).Phase() != phase {
		return api.ErrPhase
	}
	return api.OK
}
