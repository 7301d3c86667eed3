// Package pit: where buyers and sellers meet: see DOC.md.
package pit

import (
	"sync/atomic"

	"pit/api"
	"pit/book"
)

// Pit is all books.
type Pit struct {
	all    desk
	traded atomic.Int64 // in all books
}

// New makes a pit.
func New() *Pit {
	p := &Pit{}
	return p.ready()
}

// ready makes up for a pit that New did not make, since no call may panic: a nil one answers as a new one.
func (p *Pit) ready() *Pit {
	if p == nil {
		return New()
	}
	for i, b := range p.all.books {
		if b == nil {
			p.all.books[i] = book.New(&p.traded)
		}
	}
	return p
}

// Do does a command (P3).
func (p *Pit) Do(c api.Command) []api.Event { return p.ready().all.do(c) }

// Run does some (P5). What it answers is as if they were done one behind the other.
func (p *Pit) Run(l []api.Command) [][]api.Event {
	p = p.ready()
	out := make([][]api.Event, len(l))
	t := newTeam(&p.all, l)
	for at, c := range l {
		if c.What == api.CancelAll { // it asks every book, so that no worker may be at one
			t.finish()
			out[at] = p.all.do(c)
			continue
		}
		t.send(c, &out[at])
	}
	t.finish()
	return out
}

// Depth tells what rests on a side, by prices (P4).
func (p *Pit) Depth(book int, side int, most int) ([]api.Level, api.Errno) {
	if !isBook(book) || !isSide(side) {
		return nil, api.ErrNumber
	}
	return p.ready().all.book(book).Depth(side, most), api.OK
}

// Order tells an order (P4).
func (p *Pit) Order(id int) (api.Order, api.Errno) {
	o, ok := p.ready().all.resting(id)
	if !ok {
		return api.Order{}, api.ErrNone
	}
	return o, api.OK
}

// Look tells how a book stands (P4).
func (p *Pit) Look(book int) (api.State, api.Errno) {
	if !isBook(book) {
		return api.State{}, api.ErrNumber
	}
	return p.ready().all.book(book).State(), api.OK
}

// Volume tells how much was traded (P4).
func (p *Pit) Volume() int { return int(p.ready().traded.Load()) }
