package pit_test

import (
	"math"
	"testing"

	"pit/api"
	"pit/pit"
)

func TestP4Depth(t *testing.T) {
	p := begun(t, buy(1, 100, 5), buy(2, 101, 1), buy(3, 100, 2), buy(4, 1, 1), sell(5, 90, 7), sell(6, 89, 4), sell(7, 90, 1))
	buys := []api.Level{{Price: 101, Count: 1, Orders: 1}, {Price: 100, Count: 7, Orders: 2}, {Price: 1, Count: 1, Orders: 1}}
	sells := []api.Level{{Price: 89, Count: 4, Orders: 1}, {Price: 90, Count: 8, Orders: 2}}
	for _, most := range []int{math.MinInt, -1, 3, 4, math.MaxInt} {
		depth(t, p, 1, api.Buy, most, buys...)
		depth(t, p, 1, api.Sell, most, sells...)
	}
	for most := 0; most < 3; most++ {
		depth(t, p, 1, api.Buy, most, buys[:most]...)
		depth(t, p, 1, api.Sell, most, sells[:most]...)
	}
	depth(t, p, 2, api.Buy, -1)
	depth(t, p, api.MaxBooks, api.Sell, -1)
	does(t, p, change(3, 1, 100, 1), rests(3, 100, 1))
	does(t, p, cancel(2, 1), gone(2, 1))
	depth(t, p, 1, api.Buy, -1, api.Level{Price: 100, Count: 6, Orders: 2}, api.Level{Price: 1, Count: 1, Orders: 1})
}

func TestP4DepthOfAFullBook(t *testing.T) {
	p := pit.New()
	for i := range api.MaxResting {
		p.Do(order(1+i, 1, 1, api.Buy, api.MaxPrice, api.MaxCount))
	}
	depth(t, p, 1, api.Buy, -1, api.Level{Price: api.MaxPrice, Count: api.MaxResting * api.MaxCount, Orders: api.MaxResting})
	apart := pit.New()
	var want []api.Level
	for i := range api.MaxResting {
		apart.Do(order(1+i, 1, 1, api.Buy, 1+i, 1+i))
		want = append([]api.Level{{Price: 1 + i, Count: 1 + i, Orders: 1}}, want...)
	}
	depth(t, apart, 1, api.Buy, -1, want...)
	depth(t, apart, 1, api.Buy, 199, want[:199]...)
}

func TestP4Order(t *testing.T) {
	p := begun(t, order(1, 3, 2, api.Buy, 100, 5), order(api.MaxId, 1000, 8, api.Sell, 7, 9))
	for _, want := range []api.Order{
		{Id: 1, Trader: 3, Book: 2, Side: api.Buy, Price: 100, Open: 5},
		{Id: api.MaxId, Trader: 1000, Book: 8, Side: api.Sell, Price: 7, Open: 9},
	} {
		if o, e := p.Order(want.Id); o != want || e != api.OK {
			t.Errorf("Order(%d) = %+v, %d, want %+v", want.Id, o, e, want)
		}
	}
	does(t, p, change(1, 3, 100, 4), rests(1, 100, 4))
	if o, e := p.Order(1); o.Open != 4 || e != api.OK {
		t.Errorf("Order(1) = %+v, %d", o, e)
	}
	does(t, p, cancel(1, 3), gone(1, 4))
	for _, id := range []int{1, 2, 0, -1, api.MaxId + 1, math.MaxInt, math.MinInt} {
		if o, e := p.Order(id); o != (api.Order{}) || e != api.ErrNone {
			t.Errorf("Order(%d) = %+v, %d", id, o, e)
		}
	}
}

func TestP4Look(t *testing.T) {
	p := begun(t, buy(1, 100, 5), sell(2, 90, 7), sell(3, 90, 7), order(4, 1, 8, api.Buy, 1, 1))
	for book := 1; book <= api.MaxBooks; book++ {
		want := api.State{Phase: api.Gathering}
		switch book {
		case 1:
			want.Buys, want.Sells = 1, 2
		case 8:
			want.Buys = 1
		}
		if x, e := p.Look(book); x != want || e != api.OK {
			t.Errorf("Look(%d) = %+v, %d, want %+v", book, x, e, want)
		}
	}
	does(t, p, cancel(2, 1), gone(2, 7))
	if x, _ := p.Look(1); x != (api.State{Phase: api.Gathering, Buys: 1, Sells: 1}) {
		t.Errorf("Look(1) = %+v", x)
	}
}

// Nothing is traded in books that gather, though the prices meet.
func TestP4Volume(t *testing.T) {
	p := begun(t, order(1, 1, 1, api.Buy, 100, 5), order(2, 2, 1, api.Sell, 90, 5))
	if n := p.Volume(); n != 0 {
		t.Errorf("Volume() = %d", n)
	}
}
