package pit

import (
	"sync"

	"pit/api"
)

// behind is how many commands a worker may be behind before the others have to wait for it.
const behind = 64

// errand is a command on its way to the worker that does it.
type errand struct {
	command api.Command
	events  *[]api.Event // where what it leads to is put: no other errand's place
}

// worker has the books of its desk for itself.
type worker struct {
	desk
	errands chan errand // nil while it is not at work
}

// work does what is sent, until no more comes.
func (w *worker) work(errands chan errand, busy *sync.WaitGroup) {
	defer busy.Done()
	for e := range errands {
		*e.events = w.do(e.command)
	}
}

// team is who works on which book in a Run: books that have an order's number in common are the same worker's.
type team struct {
	workers [api.MaxBooks]*worker // by the books' numbers
	homes   map[int]int           // by an order's number: one of the books in which it rests or may come to rest
	busy    sync.WaitGroup
}

// newTeam finds out, ahead of all work, in which books the numbers are that some commands may get to.
func newTeam(all *desk, l []api.Command) *team {
	t := &team{homes: map[int]int{}}
	for i, b := range all.books {
		t.workers[i] = &worker{}
		t.workers[i].books[i] = b
		for _, o := range b.Orders() {
			t.share(o.Id, o.Book)
		}
	}
	for _, c := range l {
		if c.What == api.New && newNumbers(c) {
			t.share(c.Id, c.Book)
		}
	}
	return t
}

// share lets a book have an order's number, in common with the books that have it already.
func (t *team) share(id, book int) {
	home, known := t.homes[id]
	if !known {
		t.homes[id] = book
		return
	}
	t.join(home, book)
}

// join gives two books, and all that were joined to either of them, to one worker.
func (t *team) join(one, other int) {
	stays, leaves := t.workers[one-1], t.workers[other-1]
	for i, w := range t.workers {
		if w == leaves {
			stays.books[i] = leaves.books[i]
			t.workers[i] = stays
		}
	}
}

// worker tells who does a command. One that gets to no book is refused by anyone.
func (t *team) worker(c api.Command) *worker {
	book := c.Book
	if c.What == api.Cancel || c.What == api.Change {
		book = t.homes[c.Id]
	}
	if !isBook(book) {
		book = 1
	}
	return t.workers[book-1]
}

// send has a command done, by and by, and what it leads to put into a place.
func (t *team) send(c api.Command, events *[]api.Event) {
	w := t.worker(c)
	if w.errands == nil {
		w.errands = make(chan errand, behind)
		t.busy.Add(1)
		go w.work(w.errands, &t.busy)
	}
	w.errands <- errand{c, events}
}

// finish waits until all that was sent is done, and nobody is at work any more.
func (t *team) finish() {
	for _, w := range t.workers {
		if w.errands != nil {
			close(w.errands)
			w.errands = nil // books that share a worker must not close it again
		}
	}
	t.busy.Wait()
}
