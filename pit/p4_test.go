package pit_test

import (
	"math"
	"testing"

	"pit/api"
	"pit/pit"
)

func TestP4Depth(t *testing.T) {
	p := begun(t, buy(1, 100, 5), buy(2, 101, 1), buy(3, 100, 2), buy(4, 1, 1), sell(5, 90, 7), sell(6, 89, 4), sell(7, 90, 1))
	buys := []api.Level{{Price: 101, Count: 1, Orders: 1}, {Price: 100, Count: 7, Orders: 2}, {Price: 1, Count: 1, Orders: 1}}
	sells := []api.Level{{Price: 89, Count: 4, Orders: 1}, {Price: 90, Count: 8, Orders: 2}}
	for _, most := range []int{math.MinInt, -1, 3, 4, math.MaxInt} {
		depth(t, p, 1, api.Buy, most, buys...)
		depth(t, p, 1, api.Sell, most, sells...)
	}
	for most := 0; most < 3; most++ {
		depth(t, p, 1, api.Buy, most, buys[:most]...)
		depth(t, p, 1, api.Sell, most, sells[:most]...)
	}
	depth(t, p, 2, api.Buy, -1)
	depth(t, p, api.MaxBooks, api.Sell, -1)
	does(t, p, change(3, 1, 100, 1), rests(3, 100, 1))
	does(t, p, cancel(2, 1), gone(2, 1))
	depth(t, p, 1, api.Buy, -1, api.Level{Price: 100, Count: 6, Orders: 2}, api.Level{Price: 1, Count: 1, Orders: 1})
}

func TestP4DepthOfAFullBook(t *testing.T) {
	p := pit.New()
	for i := range api.MaxResting {
		p.Do(order(1+i, 1, 1, api.Buy, api.MaxPrice, api.MaxCount))
	}
	depth(t, p, 1, api.Buy, -1, api.Level{Price: api.MaxPrice, Count: api.MaxResting * api.MaxCount, Orders: api.MaxResting})
	apart := pit.New()
	var want []api.Level
	for i := range api.MaxResting {
		apart.Do(order(1+i, 1, 1, api.Buy, 1+i, 1+i))
		want = append([]api.Level{{Price: 1 + i, Count: 1 + i, Orders: 1}}, want...)
	}
	depth(t, apart, 1, api.Buy, -1, want...)
	depth(t, apart, 1, api.Buy, 199, want[:199]...)
}

func TestP4Order(t *testing.T) {
	p := begun(t, order(1, 3, 2, api.Buy, 100, 5), order(api.MaxId, 1000, 8, api.Sell, 7, 9))
	for _, want := range []api.Order{
		{Id: 1, Trader: 3, Book: 2, Side: api.Buy, Price: 100, Open: 5},
		{Id: api.MaxId, Trader: 1000, Book: 8, Side: api.Sell, Price: 7, Open: 9},
	} {
		if o, e := p.Order(want.Id); o != want || e != api.OK {
			t.Errorf("Order(%d) = %+v, %d, want %+v", want.Id, o, e, want)
		}
	}
	does(t, p, change(1, 3, 100, 4), rests(1, 100, 4))
	if o, e := p.Order(1); o.Open != 4 || e != api.OK {
		t.Errorf("Order(1) = %+v, %d", o, e)
	}
	does(t, p, cancel(1, 3), gone(1, 4))
	for _, id := range []int{1, 2, 0, -1, api.MaxId + 1, math.MaxInt, math.MinInt} {
		if o, e := p.Order(id); o != (api.Order{}) || e != api.ErrNone {
			t.Errorf("Order(%d) = %+v, %d", id, o, e)
		}
	}
}

func TestP4Look(t *testing.T) {
	p := begun(t, buy(1, 100, 5), sell(2, 90, 7), sell(3, 90, 7), order(4, 1, 8, api.Buy, 1, 1))
	for book := 1; book <= api.MaxBooks; book++ {
		want := api.State{Phase: api.Gathering}
		switch book {
		case 1:
			want.Buys, want.Sells = 1, 2
		case 8:
			want.Buys = 1
		}
		if x, e := p.Look(book); x != want || e != api.OK {
			t.Errorf("Look(%d) = %+v, %d, want %+v", book, x, e, want)
		}
	}
	does(t, p, cancel(2, 1), gone(2, 7))
	if x, _ := p.Look(1); x != (api.State{Phase: api.Gathering, Buys: 1, Sells: 1}) {
		t.Errorf("Look(1) = %+v", x)
	}
}

// counts checks how much was traded in each book, and in all.
func counts(t *testing.T, p *pit.Pit, want ...int) {
	t.Helper()
	sum := 0
	for i, n := range want {
		sum += n
		if x, e := p.Look(1 + i); x.Traded != n || e != api.OK {
			t.Errorf("Look(%d) = %+v, %d, want %d traded", 1+i, x, e, n)
		}
	}
	if n := p.Volume(); n != sum {
		t.Errorf("Volume() = %d, want %d", n, sum)
	}
}

func TestP4WhatWasTraded(t *testing.T) {
	p := begun(t, order(1, 1, 1, api.Buy, 100, 5), order(2, 2, 1, api.Sell, 90, 7))
	counts(t, p, 0, 0) // nothing is traded in books that gather, though the prices meet
	does(t, p, opening(1), traded(1, 2, 90, 5), opened(90, 5))
	counts(t, p, 5, 0)
	does(t, p, order(3, 3, 1, api.Buy, 90, 1), taken(3, 1), traded(3, 2, 90, 1))
	counts(t, p, 6, 0)
	does(t, p, order(4, 2, 1, api.Buy, 95, 4), taken(4, 4), gone(2, 1), rests(4, 95, 4)) // what is gone is not traded
	counts(t, p, 6, 0)
	does(t, p, opening(2), opened(0, 0))
	does(t, p, order(5, 1, 2, api.Sell, 1, api.MaxCount), taken(5, api.MaxCount), rests(5, 1, api.MaxCount))
	does(t, p, of(api.Any, order(6, 2, 2, api.Buy, 0, api.MaxCount)), taken(6, api.MaxCount), traded(6, 5, 1, api.MaxCount))
	counts(t, p, 6, api.MaxCount)
	does(t, p, closing(1), closed())
	does(t, p, order(7, 1, 1, api.Sell, 95, 2), taken(7, 2), rests(7, 95, 2))
	does(t, p, opening(1), traded(4, 7, 95, 2), opened(95, 2))
	counts(t, p, 8, api.MaxCount, 0, 0, 0, 0, 0, 0)
	holds(t, p, of(api.Whole, order(8, 1, 1, api.Sell, 95, 3)), refused(8, api.ErrMatch))
	counts(t, p, 8, api.MaxCount)
}

func TestP4LookWhileTrading(t *testing.T) {
	p := trading(t, buy(1, 100, 5), sell(2, 101, 7), sell(3, 101, 7))
	look := func(want api.State) {
		t.Helper()
		if x, e := p.Look(1); x != want || e != api.OK {
			t.Errorf("Look(1) = %+v, %d, want %+v", x, e, want)
		}
	}
	look(api.State{Phase: api.Trading, Buys: 1, Sells: 2})
	does(t, p, order(4, 2, 1, api.Buy, 101, 8), taken(4, 8), traded(4, 2, 101, 7), traded(4, 3, 101, 1))
	look(api.State{Phase: api.Trading, Buys: 1, Sells: 1, Traded: 8})
	depth(t, p, 1, api.Sell, -1, api.Level{Price: 101, Count: 6, Orders: 1})
	if o, e := p.Order(3); o != (api.Order{Id: 3, Trader: 1, Book: 1, Side: api.Sell, Price: 101, Open: 6}) || e != api.OK {
		t.Errorf("Order(3) = %+v, %d", o, e)
	}
	for _, id := range []int{2, 4} { // of these nothing is open
		if o, e := p.Order(id); o != (api.Order{}) || e != api.ErrNone {
			t.Errorf("Order(%d) = %+v, %d", id, o, e)
		}
	}
	does(t, p, closing(1), closed())
	look(api.State{Phase: api.Gathering, Buys: 1, Sells: 1, Traded: 8})
	if x, _ := p.Look(2); x != (api.State{Phase: api.Gathering}) {
		t.Errorf("Look(2) = %+v", x)
	}
}
