package pit_test

import (
	"reflect"
	"testing"

	"pit/api"
	"pit/pit"
)

// fields of a command, to be set one by one.
func fields(c *api.Command) []*int {
	return []*int{&c.What, &c.Id, &c.Trader, &c.Book, &c.Side, &c.Kind, &c.Price, &c.Count}
}

func TestP1NoCallPanics(t *testing.T) {
	noCallPanics(begun(t, buy(1, 100, 5), sell(2, 90, 7)))
	noCallPanics(trading(t, buy(1, 100, 5), sell(2, 110, 7), order(3, 2, 1, api.Sell, 105, 9)))
}

func noCallPanics(p *pit.Pit) {
	for what := -1; what <= 8; what++ {
		for i := 1; i < 8; i++ {
			for j := i; j < 8; j++ {
				for _, m := range edges {
					for _, n := range edges {
						c := api.Command{What: what, Id: 1, Trader: 1, Book: 1, Side: 1, Kind: 1, Price: 100, Count: 5}
						*fields(&c)[i] = m
						*fields(&c)[j] = n
						p.Do(c)
					}
				}
			}
		}
	}
	for _, book := range edges {
		p.Look(book)
		p.Order(book)
		p.Do(api.Command{What: book, Id: 1, Trader: 1})
		for _, side := range edges {
			for _, most := range edges {
				p.Depth(book, side, most)
			}
		}
	}
	p.Volume()
	p.Run(nil)
	p.Run(make([]api.Command, 1000))
}

func TestP1APitThatNewDidNotMake(t *testing.T) {
	var none *pit.Pit
	for _, p := range []*pit.Pit{none, {}} {
		if got, want := view(p), view(pit.New()); !reflect.DeepEqual(got, want) {
			t.Errorf("%+v, want %+v", got, want)
		}
		p.Run(nil)
		does(t, p, buy(1, 100, 5), taken(1, 5), rests(1, 100, 5))
		does(t, p, buy(0, 100, 5), refused(0, api.ErrNumber))
		does(t, p, closing(1), refused(0, api.ErrPhase))
		does(t, p, opening(2), opened(0, 0))
	}
}

func TestP1FirstErrorOfNew(t *testing.T) {
	p := full(t)
	c := buy(1, 0, 5) // no price, in use, not now, full
	c.Kind = api.Now
	holds(t, p, c, refused(1, api.ErrNumber))
	c.Price = 100 // in use, not now, full
	holds(t, p, c, refused(1, api.ErrKnown))
	c.Id = 201 // not now, full
	holds(t, p, c, refused(201, api.ErrPhase))
	c.Kind = api.Post
	holds(t, p, c, refused(201, api.ErrPhase))
	c.Kind = api.Rest // full
	holds(t, p, c, refused(201, api.ErrFull))
	c.Id = 1 // in use, full
	holds(t, p, c, refused(1, api.ErrKnown))
}

// The same, where books trade: ErrMatch comes ahead of ErrFull.
func TestP1FirstErrorOfNewWhileTrading(t *testing.T) {
	p := fullTrading(t)
	for kind, e := range map[int]api.Errno{api.Post: api.ErrMatch, api.Whole: api.ErrMatch, api.Rest: api.ErrFull} {
		c := of(kind, order(1, 2, 1, api.Buy, 0, 1000)) // no price, in use, would trade or not whole, full
		holds(t, p, c, refused(1, api.ErrNumber))
		c.Price = 101
		holds(t, p, c, refused(1, api.ErrKnown))
		c.Id = 201
		holds(t, p, c, refused(201, e))
	}
	holds(t, p, of(api.Post, order(201, 2, 1, api.Buy, 100, 1)), refused(201, api.ErrFull))
}

func TestP1FirstErrorOfOpenAndClose(t *testing.T) {
	p := trading(t, buy(1, 100, 5))
	holds(t, p, opening(0), refused(0, api.ErrNumber))
	holds(t, p, closing(9), refused(0, api.ErrNumber))
	holds(t, p, opening(1), refused(0, api.ErrPhase))
	holds(t, p, closing(2), refused(0, api.ErrPhase))
}

func TestP1FirstErrorOfCancelAndChange(t *testing.T) {
	p := begun(t, buy(1, 100, 5))
	holds(t, p, cancel(9, 0), refused(9, api.ErrNumber))
	holds(t, p, cancel(0, 2), refused(0, api.ErrNumber))
	holds(t, p, cancel(1, 2), refused(1, api.ErrNone))
	holds(t, p, change(9, 1, 0, 1), refused(9, api.ErrNumber))
	holds(t, p, change(1, 2, 1, 0), refused(1, api.ErrNumber))
	holds(t, p, change(1, 2, 1, 1), refused(1, api.ErrNone))
}

// With an error every other result is nil or a struct of noughts.
func TestP1BesideAnErrorIsNothing(t *testing.T) {
	p := begun(t, buy(1, 100, 5), sell(2, 100, 5))
	for _, n := range edges {
		if n < 1 || n > api.MaxBooks {
			if l, e := p.Depth(n, api.Buy, -1); l != nil || e != api.ErrNumber {
				t.Errorf("Depth(%d, Buy, -1) = %v, %d", n, l, e)
			}
			if x, e := p.Look(n); x != (api.State{}) || e != api.ErrNumber {
				t.Errorf("Look(%d) = %+v, %d", n, x, e)
			}
		}
		if n < api.Buy || n > api.Sell {
			if l, e := p.Depth(1, n, -1); l != nil || e != api.ErrNumber {
				t.Errorf("Depth(1, %d, -1) = %v, %d", n, l, e)
			}
			if o, e := p.Order(n); o != (api.Order{}) || e != api.ErrNone {
				t.Errorf("Order(%d) = %+v, %d", n, o, e)
			}
		}
	}
}
