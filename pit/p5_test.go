package pit_test

import (
	"math/rand/v2"
	"reflect"
	"runtime"
	"slices"
	"sync"
	"testing"
	"time"

	"pit/api"
	"pit/pit"
)

// step is a command and what it leads to.
type step struct {
	command api.Command
	want    []api.Event
}

func leads(c api.Command, want ...api.Event) step { return step{c, want} }

// runs checks the events of each command of a Run, and that the pit stands behind it as the model does.
func runs(t *testing.T, before []api.Command, steps ...step) *pit.Pit {
	t.Helper()
	p, m := pit.New(), &model{}
	for _, c := range before {
		p.Do(c)
		m.do(c)
	}
	var l []api.Command
	for _, s := range steps {
		l = append(l, s.command)
		m.do(s.command)
	}
	got := p.Run(l)
	if len(got) != len(steps) {
		t.Fatalf("Run of %d commands has %d answers", len(steps), len(got))
	}
	for i, s := range steps {
		if !slices.Equal(got[i], s.want) {
			t.Errorf("command %d, %+v: %+v, want %+v", i, s.command, got[i], s.want)
		}
	}
	if got, want := view(p), m.view(); !reflect.DeepEqual(got, want) {
		t.Errorf("behind the Run: %+v, want %+v", got, want)
	}
	return p
}

// likeDo checks a Run against Do, command by command, on a pit to which the same was done.
func likeDo(t *testing.T, p, twin *pit.Pit, l []api.Command) {
	t.Helper()
	got := p.Run(l)
	if len(got) != len(l) {
		t.Fatalf("Run of %d commands has %d answers", len(l), len(got))
	}
	for i, c := range l {
		if want := twin.Do(c); !slices.Equal(got[i], want) {
			t.Fatalf("command %d, %+v: %+v, by Do %+v", i, c, got[i], want)
		}
	}
	if got, want := view(p), view(twin); !reflect.DeepEqual(got, want) {
		t.Fatalf("behind the Run: %+v, by Do %+v", got, want)
	}
}

// The document's examples as one Run; the opening is another book's, since the first two have opened theirs.
func TestP5Examples(t *testing.T) {
	p := runs(t, nil,
		leads(order(11, 1, 2, api.Buy, 102, 10), taken(11, 10), rests(11, 102, 10)),
		leads(opening(1), opened(0, 0)),
		leads(order(1, 1, 1, api.Sell, 100, 5), taken(1, 5), rests(1, 100, 5)),
		leads(order(12, 2, 2, api.Buy, 100, 5), taken(12, 5), rests(12, 100, 5)),
		leads(order(13, 3, 2, api.Sell, 99, 8), taken(13, 8), rests(13, 99, 8)),
		leads(order(2, 2, 1, api.Buy, 101, 3), taken(2, 3), traded(2, 1, 100, 3)),
		leads(of(api.Now, order(3, 2, 1, api.Buy, 100, 4)), taken(3, 4), traded(3, 1, 100, 2), gone(3, 2)),
		leads(order(14, 4, 2, api.Sell, 101, 4), taken(14, 4), rests(14, 101, 4)),
		leads(order(4, 3, 1, api.Buy, 90, 2), taken(4, 2), rests(4, 90, 2)),
		leads(opening(2), traded(11, 13, 101, 8), traded(11, 14, 101, 2), opened(101, 10)),
		leads(order(5, 3, 1, api.Sell, 90, 5), taken(5, 5), gone(4, 2), rests(5, 90, 5)),
	)
	counts(t, p, 5, 10, 0, 0, 0, 0, 0, 0)
	depth(t, p, 1, api.Sell, -1, api.Level{Price: 90, Count: 5, Orders: 1})
	depth(t, p, 2, api.Buy, -1, api.Level{Price: 100, Count: 5, Orders: 1})
}

func TestP5Nothing(t *testing.T) {
	p := trading(t, buy(1, 100, 5))
	before := view(p)
	for _, l := range [][]api.Command{nil, {}} {
		if got := p.Run(l); len(got) != 0 {
			t.Errorf("Run(%v) = %v", l, got)
		}
	}
	if after := view(p); !reflect.DeepEqual(before, after) {
		t.Errorf("%+v, want %+v", after, before)
	}
}

func TestP5One(t *testing.T) {
	p, twin := pit.New(), pit.New()
	for _, c := range session() {
		likeDo(t, p, twin, []api.Command{c})
	}
}

func TestP5Many(t *testing.T) {
	for n := 2; n < 400; n += 7 {
		p, twin := pit.New(), pit.New()
		for l := range slices.Chunk(session(), n) {
			likeDo(t, p, twin, l)
		}
	}
}

// A number is known in every book until it is free, whatever sets it free.
func TestP5ANumberInSeveralBooks(t *testing.T) {
	twice := []step{
		leads(order(5, 1, 3, api.Buy, 100, 5), taken(5, 5), rests(5, 100, 5)),
		leads(order(5, 1, 4, api.Buy, 100, 5), refused(5, api.ErrKnown)),
	}
	then := []step{
		leads(order(5, 2, 4, api.Sell, 7, 8), taken(5, 8), rests(5, 7, 8)),
		leads(order(5, 1, 3, api.Buy, 100, 5), refused(5, api.ErrKnown)),
		leads(cancel(5, 1), refused(5, api.ErrNone)),
		leads(change(5, 2, 7, 3), rests(5, 7, 3)),
		leads(cancel(5, 2), gone(5, 3)),
		leads(order(5, 3, 8, api.Buy, 1, 1), taken(5, 1), rests(5, 1, 1)),
	}
	for _, free := range [][]step{
		{leads(cancel(5, 1), gone(5, 5))},
		{leads(cancelAll(1), gone(5, 5))},
		{leads(order(6, 2, 3, api.Sell, 100, 6), taken(6, 6), rests(6, 100, 6)), leads(opening(3), traded(5, 6, 100, 5), opened(100, 5))},
		{leads(opening(3), opened(0, 0)), leads(order(6, 2, 3, api.Sell, 100, 5), taken(6, 5), traded(6, 5, 100, 5))},
		{leads(opening(3), opened(0, 0)), leads(order(6, 1, 3, api.Sell, 100, 5), taken(6, 5), gone(5, 5), rests(6, 100, 5))},
	} {
		runs(t, nil, slices.Concat(twice, free, then)...)
	}
}

// Books may be bound to each other by others that lie between.
func TestP5NumbersThatBindBooks(t *testing.T) {
	runs(t, []api.Command{order(1, 1, 1, api.Buy, 100, 1), order(2, 1, 2, api.Buy, 100, 2), order(3, 1, 3, api.Buy, 100, 3)},
		leads(order(3, 2, 4, api.Buy, 90, 4), refused(3, api.ErrKnown)),
		leads(order(2, 2, 3, api.Buy, 90, 4), refused(2, api.ErrKnown)),
		leads(order(1, 2, 2, api.Buy, 90, 4), refused(1, api.ErrKnown)),
		leads(cancel(3, 1), gone(3, 3)),
		leads(order(3, 2, 4, api.Buy, 90, 4), taken(3, 4), rests(3, 90, 4)),
		leads(cancel(2, 1), gone(2, 2)),
		leads(order(2, 2, 3, api.Buy, 90, 4), taken(2, 4), rests(2, 90, 4)),
		leads(cancel(1, 1), gone(1, 1)),
		leads(order(1, 2, 2, api.Buy, 90, 4), taken(1, 4), rests(1, 90, 4)),
		leads(cancelAll(2), gone(1, 4), gone(2, 4), gone(3, 4)),
		leads(order(1, 1, 4, api.Sell, 1, 1), taken(1, 1), rests(1, 1, 1)),
	)
}

// A number that does not rest may still be known: to an order that never rests, too.
func TestP5ANumberThatIsKnownToAllKinds(t *testing.T) {
	runs(t, []api.Command{opening(2), order(1, 1, 1, api.Buy, 100, 1), order(2, 1, 2, api.Buy, 100, 9)},
		leads(of(api.Any, order(1, 2, 2, api.Sell, 0, 4)), refused(1, api.ErrKnown)),
		leads(cancel(1, 1), gone(1, 1)),
		leads(of(api.Any, order(1, 2, 2, api.Sell, 0, 4)), taken(1, 4), traded(1, 2, 100, 4)),
		leads(order(1, 1, 1, api.Buy, 99, 1), taken(1, 1), rests(1, 99, 1)),
		leads(of(api.Whole, order(1, 2, 2, api.Sell, 100, 5)), refused(1, api.ErrKnown)),
	)
}

func TestP5WhatAnEarlierCommandTook(t *testing.T) {
	runs(t, []api.Command{opening(2)},
		leads(cancel(1, 1), refused(1, api.ErrNone)),
		leads(change(2, 2, 1, 1), refused(2, api.ErrNone)),
		leads(order(1, 1, 7, api.Buy, 100, 5), taken(1, 5), rests(1, 100, 5)),
		leads(order(2, 2, 2, api.Buy, 50, 5), taken(2, 5), rests(2, 50, 5)),
		leads(cancel(1, 2), refused(1, api.ErrNone)),
		leads(change(1, 1, 100, 4), rests(1, 100, 4)),
		leads(order(3, 3, 2, api.Sell, 60, 3), taken(3, 3), rests(3, 60, 3)),
		leads(change(2, 2, 61, 7), gone(2, 5), taken(2, 7), traded(2, 3, 60, 3), rests(2, 61, 4)),
		leads(change(1, 1, 100, 6), gone(1, 4), taken(1, 6), rests(1, 100, 6)),
		leads(cancel(3, 3), refused(3, api.ErrNone)),
		leads(cancel(2, 2), gone(2, 4)),
		leads(cancel(1, 1), gone(1, 6)),
		leads(cancel(1, 1), refused(1, api.ErrNone)),
	)
}

func TestP5CancelAllInTheMidst(t *testing.T) {
	var steps []step
	var all []api.Event
	for book := api.MaxBooks; book >= 1; book-- { // the last book's come first, and are told last
		sells, buys := 10*book, 10*book+1
		steps = append(steps,
			leads(order(sells, 1, book, api.Sell, 200, 3), taken(sells, 3), rests(sells, 200, 3)),
			leads(order(buys, 1, book, api.Buy, 100, 4), taken(buys, 4), rests(buys, 100, 4)),
			leads(order(10*book+2, 2, book, api.Buy, 300, 1), taken(10*book+2, 1), rests(10*book+2, 300, 1)))
		all = append([]api.Event{gone(buys, 4), gone(sells, 3)}, all...)
	}
	steps = append(steps,
		leads(cancelAll(0), refused(0, api.ErrNumber)),
		leads(cancelAll(1), all...),
		leads(cancelAll(1)),
		leads(cancelAll(api.MaxTraders+1), refused(0, api.ErrNumber)))
	for book := 1; book <= api.MaxBooks; book++ {
		steps = append(steps, leads(opening(book), opened(0, 0)),
			leads(order(10*book, 1, book, api.Sell, 300, 3), taken(10*book, 3), traded(10*book, 10*book+2, 300, 1), rests(10*book, 300, 2)))
	}
	p := runs(t, nil, append(steps, leads(cancelAll(2)))...)
	counts(t, p, 1, 1, 1, 1, 1, 1, 1, 1)
}

// What comes ahead of a CancelAll is done, in all books, and what comes behind it is not.
func TestP5CancelAllBetweenLongWork(t *testing.T) {
	for range 20 {
		p, twin := pit.New(), pit.New()
		var l []api.Command
		for i := range 3000 {
			l = append(l, order(1+i, 1+i%7, 1+i%api.MaxBooks, 1+i/8%2, 100+i%13, 1+i%5))
			if i%500 == 499 {
				l = append(l, cancelAll(1+i%3), opening(1+i%8), cancelAll(1+i%5), closing(1+i%8))
			}
		}
		likeDo(t, p, twin, l)
	}
}

func TestP5OpenAndCloseInTheMidst(t *testing.T) {
	p := runs(t, nil,
		leads(closing(1), refused(0, api.ErrPhase)),
		leads(order(1, 1, 1, api.Buy, 100, 5), taken(1, 5), rests(1, 100, 5)),
		leads(of(api.Now, order(2, 2, 1, api.Sell, 90, 3)), refused(2, api.ErrPhase)),
		leads(opening(2), opened(0, 0)),
		leads(order(2, 2, 1, api.Sell, 90, 3), taken(2, 3), rests(2, 90, 3)),
		leads(opening(1), traded(1, 2, 90, 3), opened(90, 3)),
		leads(opening(1), refused(0, api.ErrPhase)),
		leads(of(api.Now, order(2, 2, 1, api.Sell, 90, 1)), taken(2, 1), traded(2, 1, 100, 1)),
		leads(closing(1), closed()),
		leads(order(2, 2, 1, api.Sell, 90, 1), taken(2, 1), rests(2, 90, 1)),
		leads(closing(2), closed()),
		leads(of(api.Post, order(3, 2, 2, api.Sell, 90, 1)), refused(3, api.ErrPhase)),
		leads(opening(1), traded(1, 2, 90, 1), opened(90, 1)),
		leads(opening(0), refused(0, api.ErrNumber)),
		leads(closing(9), refused(0, api.ErrNumber)),
	)
	counts(t, p, 5, 0)
}

func TestP5WhatIsRefused(t *testing.T) {
	var steps []step
	for _, n := range edges {
		if n < 1 || n > api.Close {
			steps = append(steps, leads(api.Command{What: n, Id: 1, Trader: 1, Book: 1}, refused(0, api.ErrCommand)))
		}
		if n < 1 || n > api.MaxId {
			steps = append(steps, leads(order(n, 1, 1, 1, 1, 1), refused(n, api.ErrNumber)),
				leads(cancel(n, 1), refused(n, api.ErrNumber)), leads(change(n, 1, 1, 1), refused(n, api.ErrNumber)))
		}
		if n < 1 || n > api.MaxBooks {
			steps = append(steps, leads(order(9, 1, n, 1, 1, 1), refused(9, api.ErrNumber)),
				leads(opening(n), refused(0, api.ErrNumber)), leads(closing(n), refused(0, api.ErrNumber)))
		}
		if n < 1 || n > api.MaxTraders {
			steps = append(steps, leads(order(9, n, 2, 1, 1, 1), refused(9, api.ErrNumber)), leads(cancel(1, n), refused(1, api.ErrNumber)),
				leads(change(1, n, 1, 1), refused(1, api.ErrNumber)), leads(cancelAll(n), refused(0, api.ErrNumber)))
		}
		steps = append(steps, leads(change(1, 2, 100, 1), refused(1, api.ErrNone)), leads(cancel(3, 1), refused(3, api.ErrNone)))
	}
	runs(t, []api.Command{order(1, 1, 1, api.Buy, 100, 5), order(2, 1, 2, api.Sell, 90, 7)}, steps...)
}

// What a command does not use is not looked at: a book that a Cancel or a CancelAll names, or a trader that an Open does.
func TestP5WhatIsNotUsed(t *testing.T) {
	p, twin := pit.New(), pit.New()
	for _, n := range edges {
		likeDo(t, p, twin, []api.Command{
			order(1, 1, 1, api.Buy, 100, 5), order(2, 1, 2, api.Buy, 100, 5), order(3, 1, 3, api.Sell, 100, 5),
			{What: api.Change, Id: 1, Trader: 1, Book: n, Side: n, Kind: n, Price: 99, Count: 7},
			{What: api.Cancel, Id: 2, Trader: 1, Book: n, Side: n, Kind: n, Price: n, Count: n},
			{What: api.Open, Id: n, Trader: n, Book: 3, Side: n, Kind: n, Price: n, Count: n},
			{What: api.New, Id: 4, Trader: 2, Book: 3, Side: api.Buy, Kind: api.Any, Price: n, Count: 2},
			{What: api.CancelAll, Id: n, Trader: 1, Book: n, Side: n, Kind: n, Price: n, Count: n},
			{What: api.Close, Id: n, Trader: n, Book: 3, Side: n, Kind: n, Price: n, Count: n},
		})
	}
}

func TestP5AFullBook(t *testing.T) {
	var l []api.Command
	for i := range 3 * api.MaxResting {
		l = append(l, order(1+i, 1, 1+i%2, api.Buy, 100, 1))
	}
	l = append(l, cancel(1, 1), order(1000, 1, 1, api.Buy, 1, 1), order(1001, 1, 1, api.Buy, 1, 1), order(1001, 1, 2, api.Buy, 1, 1), order(1001, 1, 3, api.Buy, 1, 1))
	likeDo(t, pit.New(), pit.New(), l)
}

// A Run goes on from what was done before it, and what is asked or done behind it goes on from there.
func TestP5BehindAndAhead(t *testing.T) {
	p := runs(t, []api.Command{opening(1), order(1, 1, 1, api.Sell, 100, 5), order(2, 1, 2, api.Buy, 50, 6), order(3, 1, 8, api.Buy, 50, 7)},
		leads(order(2, 2, 1, api.Buy, 100, 2), refused(2, api.ErrKnown)),
		leads(order(4, 2, 1, api.Buy, 100, 2), taken(4, 2), traded(4, 1, 100, 2)),
		leads(change(2, 1, 50, 5), rests(2, 50, 5)),
		leads(cancel(3, 1), gone(3, 7)),
	)
	if o, e := p.Order(1); o != (api.Order{Id: 1, Trader: 1, Book: 1, Side: api.Sell, Price: 100, Open: 3}) || e != api.OK {
		t.Errorf("Order(1) = %+v, %d", o, e)
	}
	if o, e := p.Order(3); o != (api.Order{}) || e != api.ErrNone {
		t.Errorf("Order(3) = %+v, %d", o, e)
	}
	if x, e := p.Look(1); x != (api.State{Phase: api.Trading, Sells: 1, Traded: 2}) || e != api.OK {
		t.Errorf("Look(1) = %+v, %d", x, e)
	}
	depth(t, p, 2, api.Buy, -1, api.Level{Price: 50, Count: 5, Orders: 1})
	counts(t, p, 2, 0, 0, 0, 0, 0, 0, 0)
	does(t, p, order(3, 3, 1, api.Buy, 100, 4), taken(3, 4), traded(3, 1, 100, 3), rests(3, 100, 1))
	if got := p.Run([]api.Command{cancelAll(3), cancelAll(1)}); !reflect.DeepEqual(got, [][]api.Event{{gone(3, 1)}, {gone(2, 5)}}) {
		t.Errorf("Run() = %+v", got)
	}
	counts(t, p, 5, 0, 0, 0, 0, 0, 0, 0)
}

func TestP5APitThatNewDidNotMake(t *testing.T) {
	var none *pit.Pit
	for _, p := range []*pit.Pit{none, {}} {
		twin := pit.New()
		for i, got := range p.Run(session()) {
			if want := twin.Do(session()[i]); !slices.Equal(got, want) {
				t.Fatalf("command %d: %+v, want %+v", i, got, want)
			}
		}
	}
}

// By chance, against the model: many books and few numbers, so that numbers go from book to book, and few books and many.
func TestP5LikeTheModel(t *testing.T) {
	for seed := range uint64(60) {
		r := rand.New(rand.NewPCG(seed, 5))
		p, m := pit.New(), &model{}
		ids := []int{12, 60, 400}[seed%3]
		for range 12 {
			var l []api.Command
			for range r.IntN(300) {
				c := some(r, []int{2, 5, api.MaxBooks}[seed/3%3], int(seed)%10)
				if c.Id > ids && c.Id <= 400 {
					c.Id = 1 + c.Id%ids
				}
				if r.IntN(40) == 0 {
					c = cancelAll(1 + r.IntN(3))
				}
				l = append(l, c)
			}
			got := p.Run(l)
			for i, c := range l {
				if want := m.do(c); !slices.Equal(got[i], want) {
					t.Fatalf("seed %d, command %d: %+v: %+v, want %+v", seed, i, c, got[i], want)
				}
			}
			if got, want := view(p), m.view(); !reflect.DeepEqual(got, want) {
				t.Fatalf("seed %d: behind a Run %+v, want %+v", seed, got, want)
			}
		}
	}
}

func TestP1RunOfAllNumbers(t *testing.T) {
	p, twin := pit.New(), pit.New()
	for what := -1; what <= 8; what++ {
		var l []api.Command
		for i := 1; i < 8; i++ {
			for j := i; j < 8; j++ {
				for _, m := range edges {
					for _, n := range edges {
						c := api.Command{What: what, Id: 1, Trader: 1, Book: 1, Side: 1, Kind: 1, Price: 100, Count: 5}
						*fields(&c)[i] = m
						*fields(&c)[j] = n
						l = append(l, c)
					}
				}
			}
		}
		likeDo(t, p, twin, l)
	}
}

func TestP1RunOfALongList(t *testing.T) {
	r := rand.New(rand.NewPCG(1, 5))
	var l []api.Command
	for i := range 200000 {
		c := some(r, api.MaxBooks, 3)
		if i > 100000 && c.Id <= 400 { // books that have no number in common
			c.Id = 8*c.Id + c.Book
		}
		l = append(l, c)
	}
	p, twin := pit.New(), pit.New()
	likeDo(t, p, twin, l[:100000])
	likeDo(t, p, twin, l[100000:])
}

func TestP2RunKeepsNoList(t *testing.T) {
	p, twin := pit.New(), pit.New()
	for l := range slices.Chunk(session(), 50) {
		given := append(make([]api.Command, 0, 100), l...)
		spare := slices.Clone(given[:cap(given)])
		p.Run(given)
		if !slices.Equal(given[:cap(given)], spare) {
			t.Fatal("Run changed its list")
		}
		scribble(given, api.Command{What: -1, Id: -1, Trader: -1, Book: -1, Side: -1, Kind: -1, Price: -1, Count: -1})
		for _, c := range l {
			twin.Do(c)
		}
		if got, want := view(p), view(twin); !reflect.DeepEqual(got, want) {
			t.Fatalf("%+v, want %+v", got, want)
		}
	}
}

func TestP2ListsOfRunAreApart(t *testing.T) {
	p, twin := pit.New(), pit.New()
	mark := api.Event{What: -1, Id: -2, Other: -3, Price: -4, Count: -5, Error: -6}
	var events []kept[api.Event]
	for l := range slices.Chunk(session(), 60) {
		out := p.Run(l)
		for _, e := range out {
			events = append(events, keep(e))
		}
		scribble(out, []api.Event{mark})
		for _, c := range l {
			twin.Do(c)
		}
	}
	for i, x := range events {
		if !slices.Equal(x.list, x.copy) {
			t.Fatalf("list %d of events was changed by later calls", i)
		}
	}
	eachAlone(t, events, mark)
	for _, x := range events {
		scribble(x.list, mark)
	}
	if got, want := view(p), view(twin); !reflect.DeepEqual(got, want) {
		t.Errorf("%+v, want %+v", got, want)
	}
	likeDo(t, p, twin, session())
}

// What a pit answers does not hang on others that are at work meanwhile.
func TestP2RunsOfSeveralPits(t *testing.T) {
	want := pit.New().Run(session())
	var all sync.WaitGroup
	for range 20 {
		all.Go(func() {
			if got := pit.New().Run(session()); !reflect.DeepEqual(got, want) {
				t.Errorf("Run() = %+v, want %+v", got, want)
			}
		})
	}
	all.Wait()
}

// Nobody is at work behind a Run. (One who has just ended may be counted for a while.)
func TestP5AllWorkEnds(t *testing.T) {
	before := runtime.NumGoroutine()
	p := pit.New()
	for range 50 {
		p.Run(session())
	}
	for range 100 {
		if runtime.NumGoroutine() <= before {
			return
		}
		time.Sleep(10 * time.Millisecond)
	}
	t.Errorf("%d goroutines, %d before", runtime.NumGoroutine(), before)
}
