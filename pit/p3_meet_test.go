package pit_test

import (
	"slices"
	"testing"

	"pit/api"
	"pit/pit"
)

// mirrored tells a command with sides and prices turned round, 1 for MaxPrice.
func mirrored(c api.Command) api.Command {
	if c.What == api.New || c.What == api.Change {
		c.Side = api.Buy + api.Sell - c.Side
		c.Price = mirroredPrice(c.Price)
	}
	return c
}

func mirroredPrice(price int) int { return api.MaxPrice + 1 - price }

func mirroredEvent(e api.Event) api.Event {
	if e.Price != 0 {
		e.Price = mirroredPrice(e.Price)
	}
	return e
}

// turned tells each of some, turned.
func turned[T any](l []T, turn func(T) T) []T {
	out := slices.Clone(l)
	for i := range out {
		out[i] = turn(out[i])
	}
	return out
}

// meets checks what a command leads to behind others in book 1, Trading, and the same with the sides turned round.
func meets(t *testing.T, rested []api.Command, c api.Command, want ...api.Event) {
	t.Helper()
	check := does
	if want[0].What == api.Refused {
		check = func(t *testing.T, p *pit.Pit, c api.Command, want ...api.Event) {
			t.Helper()
			holds(t, p, c, want[0])
		}
	}
	check(t, trading(t, rested...), c, want...)
	check(t, trading(t, turned(rested, mirrored)...), mirrored(c), turned(want, mirroredEvent)...)
}

// The document's first two examples.
func TestP3Examples(t *testing.T) {
	p := trading(t)
	does(t, p, order(1, 1, 1, api.Sell, 100, 5), taken(1, 5), rests(1, 100, 5))
	does(t, p, order(2, 2, 1, api.Buy, 101, 3), taken(2, 3), traded(2, 1, 100, 3))
	does(t, p, of(api.Now, order(3, 2, 1, api.Buy, 100, 4)), taken(3, 4), traded(3, 1, 100, 2), gone(3, 2))
	does(t, p, order(4, 3, 1, api.Buy, 90, 2), taken(4, 2), rests(4, 90, 2))
	does(t, p, order(5, 3, 1, api.Sell, 90, 5), taken(5, 5), gone(4, 2), rests(5, 90, 5))
}

// asks: 3 of trader 1 at 101, 4 of trader 2 at 102, 5 of trader 1 at 102, 6 of trader 3 at 103.
func asks() []api.Command {
	return []api.Command{
		order(1, 1, 1, api.Sell, 101, 3), order(4, 3, 1, api.Sell, 103, 6),
		order(2, 2, 1, api.Sell, 102, 4), order(3, 1, 1, api.Sell, 102, 5),
	}
}

// bid: an order 9 that buys, of trader 9, whose nothing rests among asks.
func bid(kind, price, count int) api.Command {
	return of(kind, order(9, 9, 1, api.Buy, price, count))
}

func TestP3RestMeets(t *testing.T) {
	meets(t, nil, bid(api.Rest, 100, 3), taken(9, 3), rests(9, 100, 3))
	meets(t, asks(), bid(api.Rest, 100, 3), taken(9, 3), rests(9, 100, 3))
	meets(t, asks(), bid(api.Rest, 101, 2), taken(9, 2), traded(9, 1, 101, 2))
	meets(t, asks(), bid(api.Rest, 101, 3), taken(9, 3), traded(9, 1, 101, 3))
	meets(t, asks(), bid(api.Rest, 101, 4), taken(9, 4), traded(9, 1, 101, 3), rests(9, 101, 1))
	meets(t, asks(), bid(api.Rest, 102, 8), taken(9, 8), traded(9, 1, 101, 3), traded(9, 2, 102, 4), traded(9, 3, 102, 1))
	meets(t, asks(), bid(api.Rest, api.MaxPrice, api.MaxCount), taken(9, api.MaxCount), traded(9, 1, 101, 3), traded(9, 2, 102, 4),
		traded(9, 3, 102, 5), traded(9, 4, 103, 6), rests(9, api.MaxPrice, api.MaxCount-18))
}

// A resting order of which something is open keeps its place; one of which nothing is rests no more.
func TestP3WhatIsLeftKeepsThePlace(t *testing.T) {
	p := trading(t, append(asks(), bid(api.Rest, 102, 5))...)
	depth(t, p, 1, api.Sell, -1, api.Level{Price: 102, Count: 7, Orders: 2}, api.Level{Price: 103, Count: 6, Orders: 1})
	depth(t, p, 1, api.Buy, -1)
	does(t, p, order(10, 9, 1, api.Buy, 102, 3), taken(10, 3), traded(10, 2, 102, 2), traded(10, 3, 102, 1))
	does(t, p, cancel(3, 1), gone(3, 4))
	does(t, p, cancel(2, 2), refused(2, api.ErrNone))
	does(t, p, order(2, 2, 1, api.Sell, 102, 1), taken(2, 1), rests(2, 102, 1)) // the number is free again
}

func TestP3NowMeets(t *testing.T) {
	meets(t, nil, bid(api.Now, 100, 3), taken(9, 3), gone(9, 3))
	meets(t, asks(), bid(api.Now, 100, 3), taken(9, 3), gone(9, 3))
	meets(t, asks(), bid(api.Now, 101, 3), taken(9, 3), traded(9, 1, 101, 3))
	meets(t, asks(), bid(api.Now, 101, 4), taken(9, 4), traded(9, 1, 101, 3), gone(9, 1))
	meets(t, asks(), bid(api.Now, 102, 13), taken(9, 13), traded(9, 1, 101, 3), traded(9, 2, 102, 4), traded(9, 3, 102, 5), gone(9, 1))
}

// Of the kind Any whatever the price, also one that is none.
func TestP3AnyMeets(t *testing.T) {
	for _, price := range append([]int{100, 101, 102}, edges...) {
		meets(t, nil, bid(api.Any, price, 3), taken(9, 3), gone(9, 3))
		meets(t, asks(), bid(api.Any, price, 4), taken(9, 4), traded(9, 1, 101, 3), traded(9, 2, 102, 1))
		meets(t, asks(), bid(api.Any, price, 20), taken(9, 20), traded(9, 1, 101, 3), traded(9, 2, 102, 4),
			traded(9, 3, 102, 5), traded(9, 4, 103, 6), gone(9, 2))
	}
	for _, price := range []int{1, api.MaxPrice} {
		rested := []api.Command{order(1, 1, 1, api.Sell, price, 5)}
		meets(t, rested, bid(api.Any, 0, 5), taken(9, 5), traded(9, 1, price, 5))
	}
}

func TestP3WholeMeets(t *testing.T) {
	meets(t, nil, bid(api.Whole, 100, 1), refused(9, api.ErrMatch))
	meets(t, asks(), bid(api.Whole, 100, 1), refused(9, api.ErrMatch))
	meets(t, asks(), bid(api.Whole, 101, 3), taken(9, 3), traded(9, 1, 101, 3))
	meets(t, asks(), bid(api.Whole, 101, 4), refused(9, api.ErrMatch))
	meets(t, asks(), bid(api.Whole, 102, 12), taken(9, 12), traded(9, 1, 101, 3), traded(9, 2, 102, 4), traded(9, 3, 102, 5))
	meets(t, asks(), bid(api.Whole, 102, 13), refused(9, api.ErrMatch))
	meets(t, asks(), bid(api.Whole, 103, 19), refused(9, api.ErrMatch))
	meets(t, asks(), bid(api.Whole, api.MaxPrice, api.MaxCount), refused(9, api.ErrMatch))
}

// One's own orders are not counted for the kind Whole: they make way, as far as it comes.
func TestP3WholeWithOwnOrders(t *testing.T) {
	own := func(trader, price, count int) api.Command {
		return of(api.Whole, order(9, trader, 1, api.Buy, price, count))
	}
	meets(t, asks(), own(1, 101, 1), refused(9, api.ErrMatch))
	meets(t, asks(), own(1, 102, 4), taken(9, 4), gone(1, 3), traded(9, 2, 102, 4))
	meets(t, asks(), own(1, 102, 5), refused(9, api.ErrMatch))
	meets(t, asks(), own(1, 103, 5), taken(9, 5), gone(1, 3), traded(9, 2, 102, 4), gone(3, 5), traded(9, 4, 103, 1))
	meets(t, asks(), own(1, 103, 10), taken(9, 10), gone(1, 3), traded(9, 2, 102, 4), gone(3, 5), traded(9, 4, 103, 6))
	meets(t, asks(), own(1, 103, 11), refused(9, api.ErrMatch))
	meets(t, asks(), own(3, 103, 12), taken(9, 12), traded(9, 1, 101, 3), traded(9, 2, 102, 4), traded(9, 3, 102, 5))
	meets(t, asks(), own(3, 103, 13), refused(9, api.ErrMatch))
}

func TestP3Post(t *testing.T) {
	meets(t, nil, bid(api.Post, api.MaxPrice, 3), taken(9, 3), rests(9, api.MaxPrice, 3))
	meets(t, asks(), bid(api.Post, 100, 3), taken(9, 3), rests(9, 100, 3))
	meets(t, asks(), bid(api.Post, 101, 3), refused(9, api.ErrMatch))
	meets(t, asks(), bid(api.Post, 104, 1), refused(9, api.ErrMatch))
	for trader := 1; trader <= 3; trader++ { // whoever's the best one is
		meets(t, asks(), of(api.Post, order(9, trader, 1, api.Buy, 101, 1)), refused(9, api.ErrMatch))
		meets(t, asks(), of(api.Post, order(9, trader, 1, api.Buy, 100, 1)), taken(9, 1), rests(9, 100, 1))
	}
	// An order of its own side is none that it would meet.
	meets(t, []api.Command{order(1, 1, 1, api.Buy, 100, 5)}, bid(api.Post, 100, 1), taken(9, 1), rests(9, 100, 1))
}

// What rests of the kind Post is met as any other, behind those that came first.
func TestP3PostIsMet(t *testing.T) {
	rested := []api.Command{order(1, 1, 1, api.Sell, 100, 2), of(api.Post, order(2, 1, 1, api.Sell, 100, 2)), order(3, 1, 1, api.Sell, 100, 2)}
	meets(t, rested, bid(api.Rest, 100, 5), taken(9, 5), traded(9, 1, 100, 2), traded(9, 2, 100, 2), traded(9, 3, 100, 1))
}

// One's own resting orders are Gone, as far as the order comes, and no farther.
func TestP3OwnOrdersMakeWay(t *testing.T) {
	own := func(kind, price, count int) api.Command { return of(kind, order(9, 1, 1, api.Buy, price, count)) }
	meets(t, asks(), own(api.Rest, 100, 2), taken(9, 2), rests(9, 100, 2))
	meets(t, asks(), own(api.Rest, 101, 2), taken(9, 2), gone(1, 3), rests(9, 101, 2))
	meets(t, asks(), own(api.Rest, 102, 4), taken(9, 4), gone(1, 3), traded(9, 2, 102, 4)) // 3 stays
	meets(t, asks(), own(api.Rest, 102, 5), taken(9, 5), gone(1, 3), traded(9, 2, 102, 4), gone(3, 5), rests(9, 102, 1))
	meets(t, asks(), own(api.Now, 101, 2), taken(9, 2), gone(1, 3), gone(9, 2))
	meets(t, asks(), own(api.Any, 1, 11), taken(9, 11), gone(1, 3), traded(9, 2, 102, 4), gone(3, 5), traded(9, 4, 103, 6), gone(9, 1))
	p := trading(t, append(asks(), own(api.Rest, 102, 4))...)
	depth(t, p, 1, api.Sell, -1, api.Level{Price: 102, Count: 5, Orders: 1}, api.Level{Price: 103, Count: 6, Orders: 1})
}

// Only the book that is named trades, and only if it is Trading.
func TestP3OtherBooksAreNotMet(t *testing.T) {
	p := begun(t, opening(1), opening(3), order(1, 1, 1, api.Sell, 100, 5), order(2, 1, 2, api.Sell, 100, 5))
	does(t, p, order(3, 2, 3, api.Buy, 200, 5), taken(3, 5), rests(3, 200, 5))
	does(t, p, order(4, 2, 2, api.Buy, 200, 5), taken(4, 5), rests(4, 200, 5))
	for kind := api.Any; kind <= api.Post; kind++ {
		holds(t, p, of(kind, order(5, 2, 2, api.Buy, 200, 5)), refused(5, api.ErrPhase))
	}
	does(t, p, order(5, 2, 1, api.Buy, 200, 5), taken(5, 5), traded(5, 1, 100, 5))
}

func TestP3NumbersOfNewWhileTrading(t *testing.T) {
	p := trading(t, order(4, 2, 1, api.Sell, 100, 5), order(5, 2, 1, api.Buy, 90, 5))
	for kind := api.Rest; kind <= api.Post; kind++ {
		for i, most := range []int{api.MaxId, api.MaxTraders, api.MaxBooks, api.Sell, api.Post, api.MaxPrice, api.MaxCount} {
			for _, n := range append([]int{most + 1}, edges...) {
				c := of(kind, order(3, 1, 1, api.Buy, 100, 5))
				*fields(&c)[1+i] = n
				if (n < 1 || n > most) && !(kind == api.Any && i == 5) {
					holds(t, p, c, refused(c.Id, api.ErrNumber))
				}
			}
		}
	}
}

// At the bounds of every number orders trade.
func TestP3TradesAtTheBounds(t *testing.T) {
	for _, price := range []int{1, api.MaxPrice} {
		for _, count := range []int{1, api.MaxCount} {
			for kind := api.Rest; kind <= api.Whole; kind++ {
				for _, book := range []int{1, api.MaxBooks} {
					p := begun(t, opening(book), order(api.MaxId, api.MaxTraders, book, api.Sell, price, count))
					does(t, p, of(kind, order(1, 1, book, api.Buy, price, count)), taken(1, count), traded(1, api.MaxId, price, count))
					want := make([]int, api.MaxBooks)
					want[book-1] = count
					counts(t, p, want...)
				}
			}
		}
	}
}

// A book with 200 resting orders, and each kind.
func TestP3FullBookThatTrades(t *testing.T) {
	c := func(kind, side, price, count int) api.Command { return of(kind, order(201, 2, 1, side, price, count)) }
	for _, price := range []int{1, 100, 101} { // even if all of it would trade
		holds(t, fullTrading(t), c(api.Rest, api.Buy, price, 1), refused(201, api.ErrFull))
	}
	holds(t, fullTrading(t), c(api.Post, api.Buy, 100, 1), refused(201, api.ErrFull))
	holds(t, fullTrading(t), c(api.Post, api.Buy, 101, 1), refused(201, api.ErrMatch))
	holds(t, fullTrading(t), c(api.Post, api.Sell, 101, 1), refused(201, api.ErrFull))
	holds(t, fullTrading(t), c(api.Post, api.Sell, 100, 1), refused(201, api.ErrMatch))
	does(t, fullTrading(t), c(api.Now, api.Buy, 100, 3), taken(201, 3), gone(201, 3))
	does(t, fullTrading(t), c(api.Now, api.Sell, 101, 3), taken(201, 3), gone(201, 3))
	does(t, fullTrading(t), c(api.Any, api.Buy, 0, 3), taken(201, 3), traded(201, 2, 101, 2), traded(201, 4, 101, 1))
	does(t, fullTrading(t), c(api.Any, api.Sell, 0, 3), taken(201, 3), traded(201, 1, 100, 2), traded(201, 3, 100, 1))
	does(t, fullTrading(t), c(api.Whole, api.Buy, 101, 1), taken(201, 1), traded(201, 2, 101, 1))
	holds(t, fullTrading(t), c(api.Whole, api.Buy, 101, 201), refused(201, api.ErrMatch))
	p := fullTrading(t)
	events := p.Do(c(api.Whole, api.Buy, 101, 200))
	if len(events) != 101 || events[100] != traded(201, 200, 101, 2) {
		t.Errorf("%d events, the last one %+v", len(events), events[len(events)-1])
	}
	does(t, p, c(api.Rest, api.Buy, 101, 1), taken(201, 1), rests(201, 101, 1)) // there is room again
}

// One more than 199 may rest; what trades on the way makes room only for the next.
func TestP3TheLastPlace(t *testing.T) {
	for _, kind := range []int{api.Rest, api.Post} {
		p := fullTrading(t)
		does(t, p, cancel(200, 1), gone(200, 2))
		does(t, p, of(kind, order(201, 2, 1, api.Buy, 100, 1)), taken(201, 1), rests(201, 100, 1))
		holds(t, p, of(kind, order(202, 2, 1, api.Buy, 100, 1)), refused(202, api.ErrFull))
	}
}

func TestP3ChangeMeets(t *testing.T) {
	two := []api.Command{order(1, 1, 1, api.Sell, 105, 5), order(2, 2, 1, api.Buy, 100, 4), order(3, 1, 1, api.Buy, 99, 6), order(4, 3, 1, api.Buy, 98, 6)}
	as := func(price, count int) api.Command {
		c := change(1, 1, price, count)
		c.Side = api.Sell // not looked at
		return c
	}
	meets(t, two, as(101, 5), gone(1, 5), taken(1, 5), rests(1, 101, 5))
	meets(t, two, as(100, 4), gone(1, 5), taken(1, 4), traded(1, 2, 100, 4))
	meets(t, two, as(100, 6), gone(1, 5), taken(1, 6), traded(1, 2, 100, 4), rests(1, 100, 2))
	meets(t, two, as(98, 6), gone(1, 5), taken(1, 6), traded(1, 2, 100, 4), gone(3, 6), traded(1, 4, 98, 2))
	meets(t, two, as(105, 6), gone(1, 5), taken(1, 6), rests(1, 105, 6))
	meets(t, two, as(105, 5), rests(1, 105, 5))
	meets(t, two, as(105, 1), rests(1, 105, 1))
}

// What is open counts for a Change, not what the order was for.
func TestP3ChangeOfWhatTraded(t *testing.T) {
	p := trading(t, order(1, 1, 1, api.Sell, 100, 5), order(2, 1, 1, api.Sell, 100, 5), order(3, 2, 1, api.Buy, 100, 2))
	does(t, p, change(1, 1, 100, 3), rests(1, 100, 3))
	does(t, p, change(1, 1, 100, 2), rests(1, 100, 2))
	does(t, p, change(1, 1, 100, 3), gone(1, 2), taken(1, 3), rests(1, 100, 3))
	does(t, p, order(4, 2, 1, api.Buy, 100, 6), taken(4, 6), traded(4, 2, 100, 5), traded(4, 1, 100, 1))
	does(t, p, cancel(1, 1), gone(1, 2))
}

func TestP3ChangeInAFullBookThatTrades(t *testing.T) {
	p := fullTrading(t)
	does(t, p, change(1, 1, 99, 7), gone(1, 2), taken(1, 7), rests(1, 99, 7))
	holds(t, p, order(201, 2, 1, api.Buy, 100, 1), refused(201, api.ErrFull))
}

func TestP3CancelAllWhileTrading(t *testing.T) {
	p := trading(t, append(asks(), bid(api.Rest, 101, 1), order(10, 1, 1, api.Buy, 50, 2), order(11, 1, 2, api.Buy, 500, 2))...)
	does(t, p, cancelAll(1), gone(10, 2), gone(1, 2), gone(3, 5), gone(11, 2))
	does(t, p, cancelAll(9))
}
