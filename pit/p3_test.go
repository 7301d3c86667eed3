package pit_test

import (
	"testing"

	"pit/api"
	"pit/pit"
)

func TestP3NoCommand(t *testing.T) {
	p := begun(t, buy(1, 100, 5))
	for _, what := range edges {
		if what < api.New || what > api.Close {
			holds(t, p, api.Command{What: what, Id: 1, Trader: 1, Book: 1, Side: 1, Kind: 1, Price: 1, Count: 1}, refused(0, api.ErrCommand))
		}
	}
}

func TestP3NewIsTakenAndRests(t *testing.T) {
	p := pit.New()
	does(t, p, order(1, 1, 1, api.Buy, 1, 1), taken(1, 1), rests(1, 1, 1))
	does(t, p, order(api.MaxId, api.MaxTraders, api.MaxBooks, api.Sell, api.MaxPrice, api.MaxCount),
		taken(api.MaxId, api.MaxCount), rests(api.MaxId, api.MaxPrice, api.MaxCount))
	// A book that gathers trades nothing, though the prices meet.
	does(t, p, order(2, 2, 1, api.Sell, 1, 1), taken(2, 1), rests(2, 1, 1))
}

func TestP3NumbersOfNew(t *testing.T) {
	p := begun(t, buy(4, 100, 5))
	right := order(3, 1, 1, api.Buy, 100, 5)
	for i, most := range []int{api.MaxId, api.MaxTraders, api.MaxBooks, api.Sell, api.Post, api.MaxPrice, api.MaxCount} {
		for _, n := range append([]int{most + 1}, edges...) {
			c := right
			*fields(&c)[1+i] = n
			if n < 1 || n > most {
				holds(t, p, c, refused(c.Id, api.ErrNumber))
			}
		}
		for _, n := range []int{1, most} {
			c := right
			*fields(&c)[1+i] = n
			if c.Kind != api.Rest {
				holds(t, p, c, refused(c.Id, api.ErrPhase))
				continue
			}
			does(t, p, c, taken(c.Id, c.Count), rests(c.Id, c.Price, c.Count))
			does(t, p, cancel(c.Id, c.Trader), gone(c.Id, c.Count))
		}
	}
}

func TestP3NewThatIsKnown(t *testing.T) {
	p := begun(t, buy(1, 100, 5), order(2, 2, 8, api.Sell, 100, 5))
	for _, book := range []int{1, 2, 8} {
		for _, side := range []int{api.Buy, api.Sell} {
			holds(t, p, order(1, 1, book, side, 50, 1), refused(1, api.ErrKnown))
			holds(t, p, order(2, 1, book, side, 50, 1), refused(2, api.ErrKnown))
		}
	}
	does(t, p, cancel(2, 2), gone(2, 5))
	does(t, p, order(2, 1, 1, api.Buy, 50, 1), taken(2, 1), rests(2, 50, 1))
}

func TestP3NewOfAnotherKindWhileGathering(t *testing.T) {
	p := begun(t, sell(1, 100, 5))
	for kind := api.Any; kind <= api.Post; kind++ {
		c := order(2, 2, 1, api.Buy, 100, 5)
		c.Kind = kind
		holds(t, p, c, refused(2, api.ErrPhase))
	}
}

// The kind Any does not use the price, the others do.
func TestP3PriceOfAny(t *testing.T) {
	p := pit.New()
	for _, price := range []int{-1 << 63, -1, 0, 1000001, 1 << 62} {
		c := buy(1, price, 5)
		for kind := api.Rest; kind <= api.Post; kind++ {
			c.Kind = kind
			want := api.ErrNumber
			if kind == api.Any {
				want = api.ErrPhase
			}
			holds(t, p, c, refused(1, want))
		}
		c.Kind, c.Count = api.Any, 0
		holds(t, p, c, refused(1, api.ErrNumber))
	}
}

func TestP3FullBook(t *testing.T) {
	p := full(t)
	holds(t, p, buy(201, 100, 1), refused(201, api.ErrFull))
	holds(t, p, sell(201, 100, 1), refused(201, api.ErrFull))
	does(t, p, order(201, 1, 2, api.Buy, 100, 1), taken(201, 1), rests(201, 100, 1))
	// A Change finds the room that it makes itself.
	does(t, p, change(1, 1, 100, 1), rests(1, 100, 1))
	does(t, p, change(2, 1, 101, 3), gone(2, 2), taken(2, 3), rests(2, 101, 3))
	does(t, p, change(3, 1, 100, 3), gone(3, 2), taken(3, 3), rests(3, 100, 3))
	holds(t, p, buy(202, 100, 1), refused(202, api.ErrFull))
	does(t, p, cancel(200, 1), gone(200, 2))
	does(t, p, buy(202, 100, 1), taken(202, 1), rests(202, 100, 1))
	holds(t, p, buy(203, 100, 1), refused(203, api.ErrFull))
}

// One side alone may fill a book.
func TestP3FullOnOneSide(t *testing.T) {
	p := pit.New()
	for i := range api.MaxResting {
		does(t, p, sell(1+i, 1+i, 1), taken(1+i, 1), rests(1+i, 1+i, 1))
	}
	holds(t, p, buy(201, 100, 1), refused(201, api.ErrFull))
}

func TestP3Cancel(t *testing.T) {
	p := begun(t, buy(1, 100, 5), order(2, 2, 4, api.Sell, 7, 8))
	for _, n := range edges {
		if n < 1 || n > api.MaxId {
			holds(t, p, cancel(n, 1), refused(n, api.ErrNumber))
		}
		if n < 1 || n > api.MaxTraders {
			holds(t, p, cancel(1, n), refused(1, api.ErrNumber))
		}
	}
	holds(t, p, cancel(api.MaxId, api.MaxTraders), refused(api.MaxId, api.ErrNone))
	holds(t, p, cancel(1, 2), refused(1, api.ErrNone))
	does(t, p, api.Command{What: api.Cancel, Id: 2, Trader: 2, Book: -1, Side: -1, Kind: -1, Price: -1, Count: -1}, gone(2, 8))
	holds(t, p, cancel(2, 2), refused(2, api.ErrNone))
	does(t, p, change(1, 1, 100, 2), rests(1, 100, 2))
	does(t, p, cancel(1, 1), gone(1, 2))
}

func TestP3NumbersOfChange(t *testing.T) {
	p := begun(t, buy(1, 100, 5))
	for i, most := range map[int]int{1: api.MaxId, 2: api.MaxTraders, 6: api.MaxPrice, 7: api.MaxCount} {
		for _, n := range append([]int{most + 1}, edges...) {
			if n < 1 || n > most {
				c := change(1, 1, 100, 5)
				*fields(&c)[i] = n
				holds(t, p, c, refused(c.Id, api.ErrNumber))
			}
		}
	}
	holds(t, p, change(api.MaxId, api.MaxTraders, 1, 1), refused(api.MaxId, api.ErrNone))
	does(t, p, change(1, 1, api.MaxPrice, api.MaxCount), gone(1, 5), taken(1, api.MaxCount), rests(1, api.MaxPrice, api.MaxCount))
	does(t, p, change(1, 1, api.MaxPrice, api.MaxCount), rests(1, api.MaxPrice, api.MaxCount))
	does(t, p, change(1, 1, api.MaxPrice, 1), rests(1, api.MaxPrice, 1))
	does(t, p, change(1, 1, 1, 1), gone(1, 1), taken(1, 1), rests(1, 1, 1))
}

// first checks by CancelAll in what order the orders of trader 1 rest.
func first(t *testing.T, p *pit.Pit, want ...api.Event) {
	t.Helper()
	does(t, p, cancelAll(1), want...)
}

func TestP3ChangeKeepsThePlace(t *testing.T) {
	for side := api.Buy; side <= api.Sell; side++ {
		for _, count := range []int{5, 4, 1} { // as many, fewer, the fewest
			p := begun(t, order(1, 1, 1, side, 100, 5), order(2, 1, 1, side, 100, 6))
			does(t, p, api.Command{What: api.Change, Id: 1, Trader: 1, Price: 100, Count: count, Book: -1, Side: -1, Kind: -1}, rests(1, 100, count))
			first(t, p, gone(1, count), gone(2, 6))
		}
	}
}

// What counts is what is open now, not what was once.
func TestP3ChangeTwice(t *testing.T) {
	p := begun(t, buy(1, 100, 5), buy(2, 100, 6))
	does(t, p, change(1, 1, 100, 2), rests(1, 100, 2))
	does(t, p, change(1, 1, 100, 3), gone(1, 2), taken(1, 3), rests(1, 100, 3))
	first(t, p, gone(2, 6), gone(1, 3))
}

func TestP3ChangeToMoreGoesBehind(t *testing.T) {
	for side := api.Buy; side <= api.Sell; side++ {
		p := begun(t, order(1, 1, 1, side, 100, 5), order(2, 1, 1, side, 100, 6))
		does(t, p, change(1, 1, 100, 6), gone(1, 5), taken(1, 6), rests(1, 100, 6))
		first(t, p, gone(2, 6), gone(1, 6))
	}
}

func TestP3ChangeOfPrice(t *testing.T) {
	for side := api.Buy; side <= api.Sell; side++ {
		for _, price := range []int{99, 101} {
			p := begun(t, order(1, 1, 5, side, 100, 5), order(2, 1, 5, side, price, 6))
			does(t, p, change(1, 1, price, 3), gone(1, 5), taken(1, 3), rests(1, price, 3))
			if o, e := p.Order(1); o != (api.Order{Id: 1, Trader: 1, Book: 5, Side: side, Price: price, Open: 3}) || e != api.OK {
				t.Errorf("Order(1) = %+v, %d", o, e)
			}
			first(t, p, gone(2, 6), gone(1, 3))
		}
	}
}

func TestP3CancelAll(t *testing.T) {
	p := begun(t,
		order(1, 1, 8, api.Sell, 20, 1), order(2, 1, 8, api.Buy, 10, 2), order(3, 1, 2, api.Sell, 10, 3),
		order(4, 1, 2, api.Sell, 9, 4), order(5, 1, 2, api.Sell, 10, 5), order(6, 1, 2, api.Buy, 9, 6),
		order(7, 1, 2, api.Buy, 10, 7), order(8, 1, 2, api.Buy, 9, 8), order(9, 2, 2, api.Buy, 9, 9),
	)
	for _, n := range edges {
		if n < 1 || n > api.MaxTraders {
			c := cancelAll(n)
			c.Id = 5
			holds(t, p, c, refused(0, api.ErrNumber))
		}
	}
	does(t, p, cancelAll(api.MaxTraders))
	does(t, p, api.Command{What: api.CancelAll, Trader: 1, Id: -1, Book: -1, Side: -1, Kind: -1, Price: -1, Count: -1},
		gone(7, 7), gone(6, 6), gone(8, 8), gone(4, 4), gone(3, 3), gone(5, 5), gone(2, 2), gone(1, 1))
	does(t, p, cancelAll(1))
	does(t, p, cancelAll(2), gone(9, 9))
}
