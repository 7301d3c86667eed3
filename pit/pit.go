// Package pit: where buyers and sellers meet: see DOC.md.
package pit

import (
	"sync/atomic"

	"pit/api"
	"pit/book"
)

// Pit is all books.
type Pit struct {
	books  [api.MaxBooks]*book.Book // the book with the number 1 first
	traded atomic.Int64             // in all books
}

// New makes a pit.
func New() *Pit {
	p := &Pit{}
	return p.ready()
}

// ready makes up for a pit that New did not make, since no call may panic: a nil one answers as a new one.
func (p *Pit) ready() *Pit {
	if p == nil {
		return New()
	}
	for i := range p.books {
		if p.books[i] == nil {
			p.books[i] = book.New(&p.traded)
		}
	}
	return p
}

// Do does a command (P3).
func (p *Pit) Do(c api.Command) []api.Event {
	p = p.ready()
	switch c.What {
	case api.New:
		return p.enter(c)
	case api.Cancel:
		return p.cancel(c)
	case api.Change:
		return p.change(c)
	case api.CancelAll:
		return p.cancelAll(c)
	case api.Open:
		return p.open(c)
	case api.Close:
		return p.close(c)
	}
	return refused(0, api.ErrCommand)
}

// Run does some (P5).
func (p *Pit) Run(l []api.Command) [][]api.Event { return nil }

// Depth tells what rests on a side, by prices (P4).
func (p *Pit) Depth(book int, side int, most int) ([]api.Level, api.Errno) {
	if !isBook(book) || !isSide(side) {
		return nil, api.ErrNumber
	}
	return p.ready().book(book).Depth(side, most), api.OK
}

// Order tells an order (P4).
func (p *Pit) Order(id int) (api.Order, api.Errno) {
	o, ok := p.ready().resting(id)
	if !ok {
		return api.Order{}, api.ErrNone
	}
	return o, api.OK
}

// Look tells how a book stands (P4).
func (p *Pit) Look(book int) (api.State, api.Errno) {
	if !isBook(book) {
		return api.State{}, api.ErrNumber
	}
	return p.ready().book(book).State(), api.OK
}

// Volume tells how much was traded (P4).
func (p *Pit) Volume() int { return int(p.ready().traded.Load()) }
