package pit

import (
	"pit/api"
	"pit/book"
	"pit/event"
)

// desk is the books that are worked on together: all of a pit, or in a Run those that one goroutine has.
type desk struct {
	books [api.MaxBooks]*book.Book // the book with the number 1 first, nil if it is at another desk
}

func (d *desk) book(number int) *book.Book { return d.books[number-1] }

// do does a command for which the books at this desk are enough.
func (d *desk) do(c api.Command) []api.Event {
	switch c.What {
	case api.New:
		return d.enter(c)
	case api.Cancel:
		return d.cancel(c)
	case api.Change:
		return d.change(c)
	case api.CancelAll:
		return d.cancelAll(c)
	case api.Open:
		return d.open(c)
	case api.Close:
		return d.close(c)
	}
	return refused(0, api.ErrCommand)
}

// resting finds an order in whatever book of this desk it rests, and tells whether it does.
func (d *desk) resting(id int) (api.Order, bool) {
	for _, b := range d.books {
		if b == nil {
			continue
		}
		if o, ok := b.Order(id); ok {
			return o, true
		}
	}
	return api.Order{}, false
}

// restingOf finds an order as resting does, but none of another trader's.
func (d *desk) restingOf(trader, id int) (api.Order, bool) {
	o, ok := d.resting(id)
	if !ok || o.Trader != trader {
		return api.Order{}, false
	}
	return o, true
}

// refused is the whole answer to a command: with it nothing else is said.
func refused(id int, e api.Errno) []api.Event {
	return []api.Event{event.Refused(id, e)}
}

// enter does the command New.
func (d *desk) enter(c api.Command) []api.Event {
	if !newNumbers(c) {
		return refused(c.Id, api.ErrNumber)
	}
	if _, known := d.resting(c.Id); known {
		return refused(c.Id, api.ErrKnown)
	}
	o := api.Order{Id: c.Id, Trader: c.Trader, Book: c.Book, Side: c.Side, Price: c.Price, Open: c.Count}
	if e := d.book(o.Book).Bars(o, c.Kind); e != api.OK {
		return refused(c.Id, e)
	}
	return d.book(o.Book).Enter(o, c.Kind)
}

func (d *desk) cancel(c api.Command) []api.Event {
	if !isId(c.Id) || !isTrader(c.Trader) {
		return refused(c.Id, api.ErrNumber)
	}
	o, ok := d.restingOf(c.Trader, c.Id)
	if !ok {
		return refused(c.Id, api.ErrNone)
	}
	d.book(o.Book).Remove(o.Id)
	return []api.Event{event.Gone(o)}
}

func (d *desk) change(c api.Command) []api.Event {
	if !changeNumbers(c) {
		return refused(c.Id, api.ErrNumber)
	}
	o, ok := d.restingOf(c.Trader, c.Id)
	if !ok {
		return refused(c.Id, api.ErrNone)
	}
	if c.Price == o.Price && c.Count <= o.Open {
		return d.shrink(o, c.Count)
	}
	return d.replace(o, c.Price, c.Count)
}

// shrink says anew what is open of an order, which keeps its place.
func (d *desk) shrink(o api.Order, count int) []api.Event {
	o.Open = count
	d.book(o.Book).Reopen(o.Id, o.Open)
	return []api.Event{event.Rests(o)}
}

// replace takes an order out and enters it anew. Nothing bars that: its number and its room are free by then.
func (d *desk) replace(o api.Order, price, count int) []api.Event {
	b := d.book(o.Book)
	b.Remove(o.Id)
	out := []api.Event{event.Gone(o)}
	o.Price, o.Open = price, count
	return append(out, b.Enter(o, api.Rest)...)
}

func (d *desk) cancelAll(c api.Command) []api.Event {
	if !isTrader(c.Trader) {
		return refused(0, api.ErrNumber)
	}
	var out []api.Event
	for _, b := range d.books {
		for _, o := range b.Of(c.Trader) {
			b.Remove(o.Id)
			out = append(out, event.Gone(o))
		}
	}
	return out
}

func (d *desk) open(c api.Command) []api.Event {
	if e := d.phased(c.Book, api.Gathering); e != api.OK {
		return refused(0, e)
	}
	return d.book(c.Book).Open()
}

func (d *desk) close(c api.Command) []api.Event {
	if e := d.phased(c.Book, api.Trading); e != api.OK {
		return refused(0, e)
	}
	return d.book(c.Book).Close()
}

// phased tells why a command that wants a book in a phase is refused, OK if it is not.
func (d *desk) phased(book, phase int) api.Errno {
	if !isBook(book) {
		return api.ErrNumber
	}
	if d.book(book).Phase() != phase {
		return api.ErrPhase
	}
	return api.OK
}
